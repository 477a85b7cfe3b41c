"""Runs: events one behind the other, and what has become of everything behind them."""

from unlikekeys.courses import Course
from unlikekeys.errors import BadRun
from unlikekeys.schemes import check_schemes


class Play:
    """What has become of everything behind a run."""

    def __init__(self, course):
        self.last_stand = course.last_stand
        self.doers = tuple(course.doers)
        self.letters = tuple(course.letters)
        self.moments = tuple(course.moments)
        self.wrong = course.wrong

    # Equal calls of played return equal Plays.
    def __eq__(self, other):
        return (isinstance(other, Play) and self.last_stand == other.last_stand and self.doers == other.doers
                and self.letters == other.letters and self.moments == other.moments and self.wrong == other.wrong)


def is_run(world, schemes, value):
    """Whether any value is a run."""
    check_schemes(world, schemes)
    return isinstance(value, tuple) and takes_all(Course(world, schemes), value)


def played(world, schemes, run):
    """The Play of a run."""
    check_schemes(world, schemes)
    if not isinstance(run, tuple):
        raise BadRun(None)
    course = Course(world, schemes)
    if not takes_all(course, run):
        raise BadRun(len(course.events))
    return Play(course)


def takes_all(course, events):
    """Take events up to the first one that is none or is not possible; returns whether there is no such."""
    for event in events:
        if not course.take(event):
            return False
    return True
