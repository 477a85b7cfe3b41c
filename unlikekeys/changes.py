"""Deeds of many keys: which rows and deeds there are, and the plans with the fewest visits."""

from unlikekeys.checks import are_different, are_names, is_exactly, is_rising, is_tuple
from unlikekeys.errors import BadDeed, BadRows
from unlikekeys.plans import Task, heights_of, is_plan, plan_of, visits_and_lent


def planned(rows, deed):
    """(visits, lent, plan, heights)."""
    check_rows(rows)
    check_deed(rows, deed)
    task = Task(rows, deed)
    visits, lent = fewest(task)
    return visits, lent, plan_of(task), heights_of(task)


def shows_planned(rows, deed, value):
    """Whether any value is such a result."""
    check_rows(rows)
    check_deed(rows, deed)
    if not is_tuple(value, 4, 4):
        return False
    task = Task(rows, deed)
    visits, lent, plan, heights = value
    if not is_exactly((visits, lent), fewest(task)) or not is_exactly(heights, heights_of(task)):
        return False
    return is_plan(task, plan)


def fewest(task):
    """(visits, lent) of a plan with the least cost."""
    return visits_and_lent(task.costs[task.first])


def check_rows(value):
    if not is_rows(value):
        raise BadRows(value)


def check_deed(rows, value):
    if not is_deed(rows, value):
        raise BadDeed(value)


def is_rows(value):
    """Whether any value is an ascending tuple of (row, house, key), no row twice, no key twice."""
    if not isinstance(value, tuple) or not all([are_names(one, 3, 3) for one in value]):
        return False
    return is_rising([row for row, _, _ in value]) and are_different([key for _, _, key in value])


def is_deed(rows, value):
    """Whether any value is an ascending tuple of (row, new key) that leaves all rows with different keys."""
    if not is_tuple(value, 1, 6) or not all([are_names(pair, 2, 2) for pair in value]):
        return False
    if not is_rising([row for row, _ in value]):
        return False
    keys = {row: key for row, _, key in rows}
    if not all([row in keys and keys[row] != key for row, key in value]):
        return False
    news = dict(value)
    return are_different([news.get(row, key) for row, key in keys.items()])
