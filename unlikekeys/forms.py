"""Forms: what the words of a line tell.

All that end in `_in` return what is written by some words, or None if they are not of this form.
"""

from unlikekeys.checks import are_names, is_integer, is_name, is_tuple

DIGITS = "0123456789"
# The words of all events that are told by a number.
NUMBERED = ("step", "stay", "leave", "come", "lapse")


def is_decimal(word):
    """Whether the word is an integer from 0, without leading zeros."""
    if word == "" or not all([sign in DIGITS for sign in word]):
        return False
    return word == "0" or word[0] != "0"


def is_event(value):
    """Whether any value is an event by its form, possible or not."""
    if not is_tuple(value, 2, 2):
        return False
    word, which = value
    if word == "begin":
        return is_name(which)
    return word in NUMBERED and is_integer(which) and which >= 0


def names_in(words):
    return tuple(words) if all([is_name(word) for word in words]) else None


def pattern_in(words):
    pairs = [tuple(word.split("=")) for word in words]
    return tuple(pairs) if all([are_names(pair, 2, 2) for pair in pairs]) else None


def slot_in(words):
    if len(words) < 2 or names_in(words) is None:
        return None
    return words[0], words[1], tuple(words[2:])


def lapse_in(words):
    groups = groups_in(words)
    if len(groups) != 2 or groups[0] == []:
        return None
    house = groups[0][0]
    needs, makes = pattern_in(groups[0][1:]), pattern_in(groups[1])
    if not is_name(house) or needs is None or makes is None:
        return None
    return house, needs, makes


def scheme_in(words):
    """(name, sort, watch) of the first line of a scheme, without its first word."""
    return slot_in(words)


def row_in(words):
    """The row that a whole line is."""
    if words[0] == "say" and len(words) == 2 and is_name(words[1]):
        return "say", words[1]
    if words[0] in ("do", "ask"):
        return step_in(words)
    return None


def step_in(words):
    """The row that a line is which begins with "do" or "ask"."""
    groups = groups_in(words)
    if len(groups) != 4 or len(groups[0]) < 2 or len(groups[3]) != 2:
        return None
    word, house = groups[0][:2]
    needs, makes, flags = pattern_in(groups[0][2:]), pattern_in(groups[1]), names_in(groups[2])
    if not is_name(house) or needs is None or makes is None or flags is None:
        return None
    if not all([is_decimal(goal) for goal in groups[3]]):
        return None
    return word, house, needs, makes, flags, int(groups[3][0]), int(groups[3][1])


def event_in(words):
    """The event that a whole line is."""
    if len(words) != 2:
        return None
    if words[0] == "begin" and is_name(words[1]):
        return "begin", words[1]
    if words[0] in NUMBERED and is_decimal(words[1]):
        return words[0], int(words[1])
    return None


def record_in(words):
    """The record that a whole line is."""
    if len(words) != 5:
        return None
    begin, end, key, sort, answer = words
    if not is_decimal(begin) or not (end == "-" or is_decimal(end)):
        return None
    if not is_name(key) or not is_name(sort) or not (answer == "-" or is_name(answer)):
        return None
    return int(begin), None if end == "-" else int(end), key, sort, None if answer == "-" else answer


def groups_in(words):
    """The words between colons that stand alone."""
    groups = [[]]
    for word in words:
        if word == ":":
            groups.append([])
        else:
            groups[-1].append(word)
    return groups
