"""A desk: a town that is used by lines."""

from unlikekeys.barring import barred
from unlikekeys.doubts import sure
from unlikekeys.errors import NoLine
from unlikekeys.forms import is_decimal
from unlikekeys.judging import judged
from unlikekeys.orders import explained
from unlikekeys.reading import read_schemes, read_world
from unlikekeys.runs import played
from unlikekeys.showing import text_of_records
from unlikekeys.tables import count_events
from unlikekeys.towns import Town

MOST_DIGITS = 9


class Desk:
    """A town, with the answers to lines about it."""

    def __init__(self, world_text, schemes_text):
        world = read_world(world_text)
        self.town = Town(world, read_schemes(world, schemes_text))

    def say(self, line):
        """The answer to a line."""
        values = values_in(line)
        if values is None:
            raise NoLine(line)
        action = ACTIONS[values[0]]
        return action(self.town, values[1:])


def values_in(line):
    """The word of the line, then the words and the numbers that it asks for; None if it is no line."""
    if not isinstance(line, str) or "\n" in line:
        return None
    words = line.split(" ")
    if "" in words or words[0] not in FORMS or len(FORMS[words[0]]) != len(words) - 1:
        return None
    values = [words[0]]
    for word, kind in zip(words[1:], FORMS[words[0]]):
        if kind == "number" and not is_number(word):
            return None
        values.append(int(word) if kind == "number" else word)
    return values


def is_number(word):
    return len(word) <= MOST_DIGITS and is_decimal(word)


def say_judge(town, values):
    found = judged(town.world, town.schemes)
    if found[0] == "right":
        return f"right {len(found[1])}"
    _, word = played(town.world, town.schemes, found[1]).wrong
    return f"wrong {word} {count_events(found[1])}"


def say_barred(town, values):
    found = barred(town.world, town.schemes, values[0])
    return "no" if found[0] == "never" else f"yes {count_events(found[1])}"


def say_begin(town, values):
    return str(town.begin(values[0], values[1]))


def say_step(town, values):
    answer = town.step(values[0])
    return "on" if answer is None else answer


def say_stay(town, values):
    town.stay(values[0])
    return "ok"


def say_leave(town, values):
    return str(town.leave(values[0]))


def say_come(town, values):
    town.come(values[0])
    return "ok"


def say_lapse(town, values):
    town.lapse(values[0], values[1])
    return "ok"


def say_fall(town, values):
    town.fall(values[0])
    return "ok"


def say_back(town, values):
    town.back()
    return "ok"


def say_stand(town, values):
    return " ".join(town.stand(values[0]))


def say_row(town, values):
    return "yes" if town.has_row(values[0]) else "no"


def say_wrongs(town, values):
    wrongs = town.wrongs
    return "; ".join([f"{time} {key} {word}" for time, key, word in wrongs]) if wrongs != () else "-"


def say_history(town, values):
    # The town's history may have more records than section 13 lets, and still has a text.
    history = town.history()
    return "-" if history == () else "; ".join(text_of_records(history).split("\n"))


def say_explain(town, values):
    order = explained(town.history())
    if order is None:
        return "none"
    return " ".join([str(number) for number in order]) if order != () else "-"


def say_sure(town, values):
    answer = sure(town.history(), values[0], values[1])
    if answer is None:
        return "open"
    return "yes" if answer else "no"


# For each line what stands behind its first word.
FORMS = {
    "judge": (), "barred": ("word",), "begin": ("word", "word"), "step": ("number",), "stay": ("number",),
    "fall": ("number",), "come": ("number",), "lapse": ("word", "number"), "back": (), "leave": ("number",),
    "stand": ("word",), "row": ("word",), "wrongs": (), "history": (), "explain": (), "sure": ("word", "number"),
}
ACTIONS = {
    "judge": say_judge, "barred": say_barred, "begin": say_begin, "step": say_step, "stay": say_stay,
    "fall": say_fall, "come": say_come, "lapse": say_lapse, "back": say_back, "leave": say_leave,
    "stand": say_stand, "row": say_row, "wrongs": say_wrongs, "history": say_history, "explain": say_explain,
    "sure": say_sure,
}
