"""Barred keys: where a scheme can't come to an end that counts any more, and whether doers that fall lead there."""

from unlikekeys.closures import reached
from unlikekeys.errors import NoScheme
from unlikekeys.judging import comes
from unlikekeys.schemes import check_schemes
from unlikekeys.steps import acted, fresh_doer, has_ended, lapse_deeds, scheme_named, takes_marks, unmarked
from unlikekeys.worlds import stand_made

# What stands in the place of (stand, doer on the way or ()) behind an end that counts.
END = ()


def barred_stands(world, schemes, name):
    """The stands from which no deeds, one behind the other, bring the scheme to an end that counts, ascending."""
    check_schemes(world, schemes)
    check_name(schemes, name)
    return stands_without_end(world, schemes, name)


def barred(world, schemes, name):
    """("run", run, layers) or ("never", table): whether anything comes to one of these stands."""
    check_schemes(world, schemes)
    check_name(schemes, name)
    return comes(world, schemes, stands_without_end(world, schemes, name))


def check_name(schemes, value):
    if scheme_named(schemes, value) is None:
        raise NoScheme(value)


def stands_without_end(world, schemes, name):
    goers = [scheme for scheme in schemes if scheme[0] == name or scheme[1] == "move"]
    ahead = states_ahead(world, goers, name)
    good = reached([END], ahead)
    return tuple([stand for stand in world.stands if (stand, ()) not in good])


def states_ahead(world, goers, name):
    """For each state that deeds come to all states ahead of it."""
    ahead = {}
    seen = set()
    waiting = [(stand, ()) for stand in world.stands]
    while waiting:
        state = waiting.pop()
        if state not in seen:
            seen.add(state)
            behind = states_behind(world, goers, name, state)
            for after in behind:
                ahead.setdefault(after, []).append(state)
            waiting.extend([after for after in behind if after != END])
    return ahead


def states_behind(world, goers, name, state):
    """All states behind one event at this state, or behind the begin of a deed."""
    stand, who = state
    if who == ():
        lapsed = [(deed.stand_behind, ()) for deed in lapse_deeds(world, stand)]
        return [*lapsed, *[(stand, fresh_doer(scheme)) for scheme in goers]]
    scheme = scheme_named(goers, who[0])
    lapsed = [(deed.stand_behind, unmarked(who) if takes_marks(scheme, deed.makes) else who)
              for deed in lapse_deeds(world, stand)]
    return [*lapsed, state_behind_step(world, scheme, name, state)]


def state_behind_step(world, scheme, name, state):
    stand, who = state
    makes, doer, _ = acted(world, scheme, who, "step", stand)
    behind = stand_made(world.slots, stand, makes)
    if not has_ended(doer):
        return (behind, doer)
    if scheme[0] == name and doer[1] != "again":
        return END
    return (behind, ())
