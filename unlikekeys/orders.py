"""Orders: in which sequence one table would have answered as a history tells."""

from unlikekeys.checks import are_different, is_exactly, is_number_of
from unlikekeys.histories import check_history, check_key, is_settled, keys_of
from unlikekeys.strands import Strand, rows_of


def explained(history):
    """Any order of the history, None if there is none."""
    check_history(history)
    moments = []
    for key in keys_of(history):
        order = Strand(history, key).order()
        if order is None:
            return None
        moments.extend(earliest_moments(history, order))
    # Within a key the sequence stays as it is where two moments come behind the same begin.
    return tuple([number for _, number in sorted(moments, key=lambda moment: moment[0])])


def earliest_moments(history, order):
    """(begin behind which its moment can be, number) for each record of an order of one key."""
    moments = []
    latest = 0
    for number in order:
        latest = max(latest, history[number][0])
        moments.append((latest, number))
    return moments


def shows_order(history, value):
    """Whether any value is an order of the history."""
    check_history(history)
    if not isinstance(value, tuple) or not all([is_number_of(len(history), number) for number in value]):
        return False
    if not are_different(value) or any([rows_of(history[number]) is None for number in value]):
        return False
    if any([is_settled(record) and number not in value for number, record in enumerate(history)]):
        return False
    return have_moments(history, value) and are_answered(history, value)


def have_moments(history, sequence):
    """Whether the moments of these records can be in this sequence."""
    latest = 0
    for number in sequence:
        begin, end, _, _, _ = history[number]
        latest = max(latest, begin)
        if end is not None and end < latest:
            return False
    return True


def are_answered(history, sequence):
    """Whether one table, without rows at first, would answer these records so in this sequence."""
    standing = {}
    for number in sequence:
        key = history[number][2]
        row_ahead, row_behind = rows_of(history[number])
        if standing.get(key, False) != row_ahead:
            return False
        standing[key] = row_behind
    return True


def closed(history, key):
    """All (done, stands) that can be as long as the records of this key go on; None if they have an order."""
    check_history(history)
    check_key(key)
    strand = Strand(history, key)
    found = strand.first_sets()
    if any([strand.has_all(done) for done in found]):
        return None
    return tuple(sorted([(strand.numbers_in(done), row) for done, (row, _) in found.items()]))


def shows_closed(history, key, value):
    """Whether any value is what closed returns, and there is no order."""
    expected = closed(history, key)
    return expected is not None and is_exactly(value, expected)
