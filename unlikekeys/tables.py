"""Whether tables, runs and layers show what they tell, whoever made them."""

from unlikekeys.aims import aim_at_stands, aim_at_wrong
from unlikekeys.arenas import Arena
from unlikekeys.cases import is_possible_case
from unlikekeys.checks import is_rising
from unlikekeys.courses import Course
from unlikekeys.judging import check_stands, unpacked_cases
from unlikekeys.schemes import check_schemes
from unlikekeys.searches import Search


def shows_right(world, schemes, table):
    """Whether any value is a table by which nothing can go wrong."""
    check_schemes(world, schemes)
    return is_table(aim_at_wrong(Arena(world, schemes)), table)


def shows_never(world, schemes, stands, table):
    """Whether any value is a table by which nothing comes to one of these stands."""
    check_schemes(world, schemes)
    check_stands(world, stands)
    aim = aim_at_stands(Arena(world, schemes), stands)
    return are_cases(aim.arena, table) and has_no_heroes(table) and is_table(aim, table)


def shows_wrong(world, schemes, run, layers):
    """Whether any two values are a shortest run whose last event alone is wrong, and its layers."""
    check_schemes(world, schemes)
    if not isinstance(run, tuple) or not goes_wrong_last(Course(world, schemes), run):
        return False
    return are_layers(aim_at_wrong(Arena(world, schemes)), count_events(run), layers)


def shows_comes(world, schemes, stands, run, layers):
    """Whether any two values are a shortest run that comes to one of these stands, and its layers."""
    check_schemes(world, schemes)
    check_stands(world, stands)
    if not isinstance(run, tuple) or not comes_last(Course(world, schemes), run, stands):
        return False
    return are_layers(aim_at_stands(Arena(world, schemes), stands), count_events(run), layers)


def are_cases(arena, value):
    """Whether any value is an ascending tuple of cases."""
    if not isinstance(value, tuple) or not all([is_possible_case(arena.possible, case) for case in value]):
        return False
    return is_rising(value)


def has_no_heroes(cases):
    return all([hero == () for _, hero, _ in cases])


def is_table(aim, value):
    """Whether any value is a table for this aim."""
    if not are_cases(aim.arena, value):
        return False
    search = Search(aim)
    for case in sorted([aim.arena.packed(case) for case in value], key=search.place):
        if search.covers(case):
            return False
        search.note_least(case)
    return not search.covers(aim.arena.first) and has_all_ahead(search)


def has_all_ahead(search):
    """Whether each case that leads to the aim, or to a case above a found one, is above a found one itself."""
    aim = search.aim
    ahead = list(aim.starts)
    for case in search.least():
        stand, hero, bag = case
        ahead.extend([one for one, _ in aim.cases_ahead(case)])
        if (stand, hero) in aim.begins:
            ahead.append((stand, (), bag))
    return all([search.covers(case) for case in ahead])


def goes_wrong_last(course, run):
    """Whether this is a run whose last event is wrong, and no other one."""
    for event in run:
        if course.wrong is not None or not course.take(event):
            return False
    return course.wrong is not None


def comes_last(course, run, stands):
    """Whether this is a run that comes to one of these stands by its last event, and not earlier."""
    for event in run:
        if course.last_stand in stands or not course.take(event):
            return False
    return course.last_stand in stands


def count_events(run):
    """How many events of a run are not begin."""
    return len([word for word, _ in run if word != "begin"])


def are_layers(aim, many, value):
    """Whether any value is the layers for all k below so many, and no run with fewer events reaches the aim."""
    if not isinstance(value, tuple) or len(value) != max(many - 1, 0):
        return False
    if not all([are_cases(aim.arena, layer) for layer in value]):
        return False
    search = Search(aim)
    for layer in value:
        search.go_back()
        if search.reaches_first() or unpacked_cases(aim.arena, search.layers[-1]) != layer:
            return False
    return True
