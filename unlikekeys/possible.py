"""Possible descriptions and heroes: what the rows of schemes allow, whatever the houses keep."""

from unlikekeys.checks import is_integer, is_tuple
from unlikekeys.closures import reached
from unlikekeys.steps import (arrived, departed, fresh_doer, has_ended, scheme_named, stayed, stepped, takes_marks,
                              unmarked)
from unlikekeys.wrongs import SEENS

FRESH = (0, False, "here")


class Possible:
    """The descriptions and the heroes that are possible with these schemes."""

    def __init__(self, world, schemes):
        self.world = world
        self.schemes = schemes
        # For each stand whether a row stands there, and whether it is broken.
        self.rows = {stand: world.has_row(stand) for stand in world.stands}
        self.broken = {stand: world.is_broken(stand) for stand in world.stands}
        # For each possible description all (description behind it, pattern that is made on the way).
        self.ways = all_ways(schemes)
        # The descriptions with which a hero may have made its moment.
        self.makers = all_makers(world, schemes, self.ways)

    def is_description(self, value):
        """Whether any value is a possible description."""
        if not is_tuple(value, 4, 4):
            return False
        name, number, marked, how = value
        # The kinds come first: 0 equals False, and what is a list has no place among the keys of a dict.
        if not isinstance(name, str) or not is_integer(number) or not isinstance(marked, bool):
            return False
        return isinstance(how, str) and value in self.ways

    def is_hero(self, value, stand):
        """Whether any value is a hero at the stand, not ()."""
        if not is_tuple(value, 5, 5) or not self.is_description(value[:4]) or value[4] not in SEENS:
            return False
        return self.can_have_seen(value[:4], value[4], stand)

    def can_have_seen(self, who, seen, stand):
        """Whether a hero with a possible description may have seen this at the stand."""
        if who[3] == "letter" or seen == ("none" if self.rows[stand] else "row"):
            return False
        return seen != "made" or who in self.makers

    def losers(self, makes):
        """The names of the schemes whose marks are taken when this pattern is made."""
        return [scheme[0] for scheme in self.schemes if takes_marks(scheme, makes)]


def is_fresh(who):
    return who[1:] == FRESH


def all_ways(schemes):
    """For each possible description what may be behind it."""
    ways = {}
    waiting = [fresh_doer(scheme) for scheme in schemes]
    while waiting:
        who = waiting.pop()
        if who not in ways:
            ways[who] = ways_from(scheme_named(schemes, who[0]), who)
            waiting.extend([behind for behind, _ in ways[who]])
    return ways


def ways_from(scheme, who):
    """All (description, pattern): what may be behind this description, and what is made on the way."""
    ways = [(unmarked(who), ())]
    if who[3] in ("then", "other"):
        ways.append((stepped(scheme, who, False), ()))
    elif who[3] == "here":
        ways.extend(ways_by_row(scheme, who))
    return [(behind, makes) for behind, makes in ways if not has_ended(behind)]


def ways_by_row(scheme, who):
    """The same of a doer that is here, by its row; those that ended are among them."""
    word, _, _, makes, flags, _, other = scheme[3][who[1]]
    can_be_done = who[2] or "same" not in flags
    ways = [(stepped(scheme, who, False), ())]
    if can_be_done:
        ways.append((stepped(scheme, who, True), makes))
    if word == "ask" and can_be_done and ("kept" in flags or makes != ()):
        ways.append((stayed(scheme, who, True), makes))
    if "kept" in flags:
        ways.append((stayed(scheme, who, False), ()))
    if "late" in flags:
        _, letter = departed(scheme, who)
        ways.extend([(arrived(scheme, other, who[2]), ()), (letter, ())])
    return ways


def all_makers(world, schemes, ways):
    """The descriptions of puts and drops behind a row that makes a slot of a row, and whatever is behind these."""
    bearing = {slot: True for pattern in world.bears for slot, _ in pattern}
    starts = [behind for who in ways if scheme_named(schemes, who[0])[1] in ("put", "drop")
              for behind, makes in ways[who] if any([slot in bearing for slot, _ in makes])]
    return reached(starts, {who: [behind for behind, _ in ways[who]] for who in ways})
