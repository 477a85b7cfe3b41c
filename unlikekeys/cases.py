"""Cases: what may be going on, whatever the number of doers."""

from unlikekeys.checks import is_tuple
from unlikekeys.errors import BadCase
from unlikekeys.leading import steps_from
from unlikekeys.possible import Possible, is_fresh
from unlikekeys.schemes import check_schemes


def is_case(world, schemes, value):
    """Whether any value is a case."""
    check_schemes(world, schemes)
    return is_possible_case(Possible(world, schemes), value)


def is_possible_case(possible, value):
    """Whether any value is a case of what is possible."""
    if not is_tuple(value, 3, 3):
        return False
    stand, hero, others = value
    if not possible.world.is_stand(stand) or (hero != () and not possible.is_hero(hero, stand)):
        return False
    if not isinstance(others, tuple) or not all([possible.is_description(who) for who in others]):
        return False
    return others == tuple(sorted(others)) and not any([is_fresh(who) for who in others])


def is_within(one, other):
    """Whether a case is within another one of the same world and schemes."""
    for value in (one, other):
        if not has_parts_of_case(value):
            raise BadCase(value)
    stand, hero, others = one
    other_stand, other_hero, crowd = other
    if stand != other_stand or hero not in ((), other_hero):
        return False
    if hero != other_hero and not is_fresh(other_hero[:4]):
        crowd = (*crowd, other_hero[:4])
    return all([others.count(who) <= crowd.count(who) for who in others])


def has_parts_of_case(value):
    """Whether any value has the outer form of a case; whether it is one, only a world and schemes tell."""
    if not is_tuple(value, 3, 3) or not all([isinstance(part, tuple) for part in value]):
        return False
    _, hero, others = value
    return len(hero) in (0, 5) and all([is_tuple(who, 4, 4) for who in others])


def led(world, schemes, case):
    """All (event, word, case behind), ascending; behind a wrong event stands ()."""
    check_schemes(world, schemes)
    possible = Possible(world, schemes)
    if not is_possible_case(possible, case):
        raise BadCase(case)
    return tuple(sorted(steps_from(possible, case)))
