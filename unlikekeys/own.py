"""Schemes of one's own: puts in two or three houses that are right, and that no fallen doer can bar."""

from unlikekeys.checks import are_names, is_rising
from unlikekeys.errors import BadHouses
from unlikekeys.worlds import World


def own(houses):
    """(world, schemes): in each house a slot that keeps whether a row stands there, and a put of its name."""
    if not are_names(houses, 2, 3) or not is_rising(houses):
        raise BadHouses(houses)
    slots = tuple([(house, house, ("no", "row")) for house in houses])
    bears = tuple([((house, "row"),) for house in houses])
    never = tuple([((one, "row"), (other, "row")) for one in houses for other in houses if one < other])
    return World(houses, slots, bears, never, ()), tuple([own_put(houses, house) for house in houses])


def own_put(houses, house):
    """Mark, touch all other houses, write if the mark is still there.

    To touch a house is to make the "no" that stands there, which takes the marks of all who are about to put a row
    there. Two doers who both mark ahead of the other's touch can't both keep their marks, so one of them writes
    nothing; nothing is left behind by a doer that falls.
    """
    others = [other for other in houses if other != house]
    write = len(others) + 1
    done, again, refused = write + 1, write + 2, write + 3
    free, row = ((house, "no"),), ((house, "row"),)
    rows = [("do", house, free, (), ("mark",), 1, refused)]
    for number, other in enumerate(others, 1):
        rows.append(("do", other, ((other, "no"),), ((other, "no"),), (), number + 1, refused))
    rows.append(("do", house, free, row, ("same",), done, again))
    says = (("say", "done"), ("say", "again"), ("say", "refused"))
    return (house, "put", (house,), (*rows, *says))
