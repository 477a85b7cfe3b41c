"""Showing: worlds, schemes, runs and histories as texts."""

from unlikekeys.errors import BadRun
from unlikekeys.forms import is_event
from unlikekeys.histories import check_history
from unlikekeys.schemes import check_schemes


def show_world(world):
    """The text of the world."""
    lines = [["houses", *world.houses]]
    lines.extend([["slot", name, house, *words] for name, house, words in world.slots])
    lines.extend([["bears", *words_of(pattern)] for pattern in world.bears])
    lines.extend([["never", *words_of(pattern)] for pattern in world.never])
    lines.extend([["lapse", house, *words_of(needs), ":", *words_of(makes)] for house, needs, makes in world.lapses])
    return text_of(lines)


def show_schemes(world, schemes):
    """The text of the schemes."""
    check_schemes(world, schemes)
    lines = []
    for name, sort, watch, rows in schemes:
        lines.append(["scheme", name, sort, *watch])
        lines.extend([words_of_row(row) for row in rows])
    return text_of(lines)


def show_run(run):
    """The text of the run; only the form of its events is asked for."""
    if not isinstance(run, tuple):
        raise BadRun(None)
    for index, event in enumerate(run):
        if not is_event(event):
            raise BadRun(index)
    return text_of([[word, str(which)] for word, which in run])


def show_history(history):
    """The text of the history."""
    check_history(history)
    return text_of_records(history)


def text_of_records(records):
    """The text of records, however many they are."""
    return text_of([words_of_record(record) for record in records])


def text_of(lines):
    """The text with these lines, each a list of words."""
    return "\n".join([" ".join(words) for words in lines])


def words_of(pattern):
    return [f"{slot}={word}" for slot, word in pattern]


def words_of_row(row):
    if row[0] == "say":
        return list(row)
    word, house, needs, makes, flags, then, other = row
    return [word, house, *words_of(needs), ":", *words_of(makes), ":", *flags, ":", str(then), str(other)]


def words_of_record(record):
    begin, end, key, sort, answer = record
    return [str(begin), "-" if end is None else str(end), key, sort, "-" if answer is None else answer]
