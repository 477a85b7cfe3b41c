"""Histories: what was asked and what was answered, whoever wrote it down."""

from unlikekeys.checks import are_different, is_integer, is_name, is_rising, is_tuple
from unlikekeys.errors import BadHistory, NoKey
from unlikekeys.schemes import ANSWERS

SORTS = ("put", "drop", "look")
MOST_RECORDS = 24
MOST_OF_A_KEY = 8


def is_history(value):
    """Whether any value is a history."""
    if not is_tuple(value, 0, MOST_RECORDS) or not all([is_record(record) for record in value]):
        return False
    begins = [begin for begin, _, _, _, _ in value]
    ends = [end for _, end, _, _, _ in value if end is not None]
    if not is_rising(begins) or not are_different([*begins, *ends]):
        return False
    return all([len(numbers_of(value, key)) <= MOST_OF_A_KEY for key in keys_of(value)])


def check_history(value):
    if not is_history(value):
        raise BadHistory(value)


def check_key(value):
    if not is_name(value):
        raise NoKey(value)


def is_record(value):
    """Whether any value is (begin, end, key, sort, answer), end and answer None if the deed has not ended."""
    if not is_tuple(value, 5, 5):
        return False
    begin, end, key, sort, answer = value
    if not is_time_of_record(begin) or not is_name(key) or sort not in SORTS:
        return False
    if end is None:
        return answer is None
    return is_time_of_record(end) and begin < end and answer in ANSWERS[sort]


def is_time_of_record(value):
    return is_integer(value) and value >= 1


def keys_of(history):
    """The keys of a history, ascending."""
    return sorted(set([key for _, _, key, _, _ in history]))


def numbers_of(history, key):
    """The numbers of the records with this key, ascending."""
    return [number for number, record in enumerate(history) if record[2] == key]


def is_settled(record):
    """Whether the deed has ended with another answer than "again"."""
    return record[1] is not None and record[4] != "again"
