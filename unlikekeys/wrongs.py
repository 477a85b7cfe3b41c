"""Wrong events: moments, what a doer has seen since its begin, and which answers are right."""

SEENS = ("both", "made", "none", "row")


def moment_between(row_ahead, row_behind):
    """Which moment an event is, told whether a row stood ahead of it and stands behind it; "" for none."""
    if row_ahead == row_behind:
        return ""
    return "put" if row_behind else "drop"


def seen_first(row):
    """What a doer has seen behind its begin."""
    return "row" if row else "none"


def seen_behind(seen, makes_moment, row_behind):
    """What a doer has seen behind an event of anybody; makes_moment: by which it makes its moment."""
    if makes_moment:
        return "made"
    if seen == ("none" if row_behind else "row"):
        return "both"
    return seen


def is_right(sort, answer, seen):
    """Whether a doer that has seen this may end with the answer."""
    if sort == "move":
        return True
    if answer == "done":
        return seen == "made"
    if answer == "none":
        return seen in ("none", "both")
    if answer == "again":
        return seen != "made"
    return seen in ("row", "both")


def wrong_of_doer(sort, moment, ahead, behind, answer, broken):
    """The word by which an event of a doer is wrong, "" if it is not.

    ahead and behind: what the doer has seen; answer: None if it does not end; broken: whether the stand behind is.
    """
    if broken:
        return "never"
    if moment not in ("", sort) or (moment == sort and ahead == "made"):
        return "moment"
    if answer is not None and not is_right(sort, answer, behind):
        return "answer"
    return ""


def wrong_of_nobody(moment, broken):
    """The same of an event of a letter or a lapse."""
    if broken:
        return "never"
    return "moment" if moment != "" else ""
