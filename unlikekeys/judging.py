"""Judging: whether anything can go wrong, or come to some stands, for all numbers of doers."""

from unlikekeys.aims import aim_at_stands, aim_at_wrong
from unlikekeys.arenas import Arena
from unlikekeys.checks import is_rising
from unlikekeys.courses import Course
from unlikekeys.errors import BadStands
from unlikekeys.possible import is_fresh
from unlikekeys.schemes import check_schemes
from unlikekeys.searches import Search


def judged(world, schemes):
    """("right", table), or ("wrong", run, layers)."""
    check_schemes(world, schemes)
    return answer_of_search(Search(aim_at_wrong(Arena(world, schemes))), "wrong", "right")


def comes(world, schemes, stands):
    """("run", run, layers), or ("never", table)."""
    check_schemes(world, schemes)
    check_stands(world, stands)
    if world.first in stands:
        return "run", (), ()
    return answer_of_search(Search(aim_at_stands(Arena(world, schemes), stands)), "run", "never")


def check_stands(world, value):
    if not isinstance(value, tuple) or not all([world.is_stand(stand) for stand in value]) or not is_rising(value):
        raise BadStands(value)


def answer_of_search(search, reached, closed):
    while search.go_back():
        if search.reaches_first():
            layers = [unpacked_cases(search.arena, layer) for layer in search.layers[:-1]]
            return reached, shortest_run(search), tuple(layers)
    return closed, unpacked_cases(search.arena, search.least())


def unpacked_cases(arena, cases):
    """The cases with all others told one by one, ascending."""
    return tuple(sorted([arena.unpacked(case) for case in cases]))


def shortest_run(search):
    """A run with the fewest events that are not begin, from the first stand to the aim."""
    course = Course(search.arena.world, search.arena.schemes)
    run = []
    hero = None
    case = search.arena.first
    while case is not None:
        # One that has begun as the hero is the hero up to the end.
        name, event, case = search.reasons[case]
        if name is not None:
            hero = len(course.doers)
            tell(course, run, ("begin", name))
        if event[0] != "lapse" and is_fresh(event[1]):
            tell(course, run, ("begin", event[1][0]))
        tell(course, run, (event[0], number_of(course, hero, event)))
    return tuple(run)


def tell(course, run, event):
    run.append(event)
    course.take(event)


def number_of(course, hero, event):
    """The number of a lapse, or of one who can do this event: who it is matters no more than for a case."""
    word, who = event
    if word == "lapse":
        return who
    if word == "come":
        return course.letters.index(who)
    if who == ():
        return hero
    return [number for number, doer in enumerate(course.doers) if doer == who and number != hero][-1]
