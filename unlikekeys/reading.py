"""Reading: what has just this text."""

from unlikekeys.errors import BadText
from unlikekeys.forms import event_in, lapse_in, names_in, pattern_in, record_in, row_in, scheme_in, slot_in
from unlikekeys.histories import check_history
from unlikekeys.schemes import check_schemes
from unlikekeys.worlds import World

# The kinds of the lines of a world, in the sequence in which they come.
WORLD_KINDS = ("houses", "slot", "bears", "never", "lapse")


def read_world(text):
    """The world with this text."""
    parts = {kind: [] for kind in WORLD_KINDS}
    place = 0
    for number, words in enumerate(lines_of(text)):
        kind = words[0]
        part = part_of_world(kind, words[1:])
        if part is None or (kind == "houses") != (number == 0) or WORLD_KINDS.index(kind) < place:
            raise BadText(number)
        place = WORLD_KINDS.index(kind)
        parts[kind].append(part)
    return World(parts["houses"][0], tuple(parts["slot"]), tuple(parts["bears"]), tuple(parts["never"]),
                 tuple(parts["lapse"]))


def part_of_world(kind, words):
    """What a line of this kind tells by its other words, None if it is none."""
    if kind == "houses":
        return names_in(words)
    if kind == "slot":
        return slot_in(words)
    if kind in ("bears", "never"):
        return pattern_in(words)
    return lapse_in(words) if kind == "lapse" else None


def read_schemes(world, text):
    """The schemes of this world with this text."""
    heads = []
    bodies = []
    for number, words in enumerate(lines_of(text)):
        is_head = words[0] == "scheme"
        part = scheme_in(words[1:]) if is_head else row_in(words)
        if part is None or (heads == [] and not is_head):
            raise BadText(number)
        if is_head:
            heads.append(part)
            bodies.append([])
        else:
            bodies[-1].append(part)
    schemes = tuple([(*head, tuple(rows)) for head, rows in zip(heads, bodies)])
    check_schemes(world, schemes)
    return schemes


def read_run(text):
    """The run with this text; only the form of its events is asked for."""
    return parts_of(text, event_in)


def read_history(text):
    """The history with this text."""
    history = parts_of(text, record_in)
    check_history(history)
    return history


def parts_of(text, form):
    """What the lines tell, each by this form; the empty text has no line."""
    lines = [] if text == "" else lines_of(text)
    parts = []
    for number, words in enumerate(lines):
        part = form(words)
        if part is None:
            raise BadText(number)
        parts.append(part)
    return tuple(parts)


def lines_of(text):
    """The words of each line; a word is empty where blanks are not single ones."""
    if not isinstance(text, str):
        raise BadText(None)
    return [line.split(" ") for line in text.split("\n")]
