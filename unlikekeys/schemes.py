"""Schemes: small programs of steps that put, drop, look for and move rows."""

from unlikekeys.checks import are_different, is_name, is_number_of, is_rising, is_tuple
from unlikekeys.errors import BadSchemes
from unlikekeys.worlds import is_pattern_at

SORTS = ("put", "drop", "look", "move")
ANSWERS = {
    "put": ("done", "refused", "again"),
    "drop": ("done", "none", "again"),
    "look": ("there", "none", "again"),
    "move": ("done", "again"),
}
FLAGS = {"do": ("mark", "same"), "ask": ("kept", "late", "mark", "same")}


def is_schemes(world, value):
    """Whether any value is schemes of this world."""
    if not is_tuple(value, 1, 3) or not all([is_scheme(world, scheme) for scheme in value]):
        return False
    return are_different([scheme[0] for scheme in value])


def check_schemes(world, value):
    if not is_schemes(world, value):
        raise BadSchemes(value)


def is_scheme(world, value):
    if not is_tuple(value, 4, 4):
        return False
    name, sort, watch, rows = value
    return is_name(name) and sort in SORTS and is_watch(world, watch) and are_rows(world, sort, watch, rows)


def is_watch(world, value):
    """Whether any value is an ascending tuple of slots of one house."""
    if not isinstance(value, tuple) or not all([is_slot_name(world, slot) for slot in value]):
        return False
    return is_rising(value) and len(set(watched_houses(world, value))) <= 1


def is_slot_name(world, value):
    return value in [name for name, _, _ in world.slots]


def watched_houses(world, watch):
    """The house of each watched slot."""
    return [house for name, house, _ in world.slots if name in watch]


def are_rows(world, sort, watch, value):
    if not is_tuple(value, 2, 12):
        return False
    if not all([is_row(world, sort, watch, len(value), row) for row in value]):
        return False
    return value[0][0] != "say"


def is_row(world, sort, watch, many, value):
    """Whether any value is a row of a scheme that has so many rows."""
    return is_say(sort, value) or is_step(world, watch, many, value)


def is_say(sort, value):
    return is_tuple(value, 2, 2) and value[0] == "say" and value[1] in ANSWERS[sort]


def is_step(world, watch, many, value):
    """Whether any value is a do or an ask."""
    if not is_tuple(value, 7, 7):
        return False
    word, house, needs, makes, flags, then, other = value
    if word not in ("do", "ask") or house not in world.houses:
        return False
    if not is_pattern_at(world.slots, house, needs) or not is_pattern_at(world.slots, house, makes):
        return False
    if not are_flags(word, house in watched_houses(world, watch), flags):
        return False
    return is_number_of(many, then) and is_number_of(many, other)


def are_flags(word, watched, value):
    """Whether any value is flags of a do or an ask, at a house with watched slots or without."""
    if not isinstance(value, tuple) or not all([flag in FLAGS[word] for flag in value]) or not is_rising(value):
        return False
    if ("mark" in value or "same" in value) and not watched:
        return False
    return "kept" not in value or ("late" not in value and "mark" not in value)
