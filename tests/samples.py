"""Worlds and schemes that several tests use, and values that are of the wrong kind everywhere."""

from unlikekeys.worlds import World

HOUSES = ("a", "b")
SLOTS = (("ra", "a", ("no", "row")), ("rb", "b", ("no", "row")))
BEARS = ((("ra", "row"),), (("rb", "row"),))
NEVER = ((("ra", "row"), ("rb", "row")),)
PLAIN = (HOUSES, SLOTS, BEARS, NEVER, ())

# Slots and words that are not in alphabetical order, a house without slots, one with two.
RICH = (
    ("east", "south", "west"),
    (("row", "west", ("no", "full", "half")), ("lock", "east", ("open", "by", "shut")),
     ("at", "east", ("none", "row"))),
    ((("at", "row"), ("lock", "shut")), (("row", "full"),), (("row", "half"),)),
    ((("at", "row"), ("row", "full")), (("lock", "by"), ("row", "half"))),
    (("east", (("lock", "by"),), (("lock", "open"),)), ("west", (), (("row", "no"),))),
)

PA = ("pa", "put", (), (
    ("do", "b", (("rb", "no"),), (), (), 1, 3),
    ("do", "a", (("ra", "no"),), (("ra", "row"),), (), 2, 3),
    ("say", "done"),
    ("say", "refused"),
))

# Schemes of the rich world, with each sort of row and with flags of all kinds.
RICH_SCHEMES = (
    ("take", "put", ("at", "lock"), (
        ("ask", "east", (("at", "none"), ("lock", "open")), (("lock", "by"),), ("late", "mark"), 1, 4),
        ("do", "west", (), (("row", "full"),), (), 2, 3),
        ("do", "east", (("lock", "by"),), (("lock", "open"),), ("mark", "same"), 3, 2),
        ("say", "done"),
        ("say", "again"),
    )),
    ("see", "look", (), (
        ("ask", "west", (("row", "no"),), (), ("kept",), 1, 2),
        ("say", "none"),
        ("say", "there"),
    )),
    ("tidy", "move", ("row",), (
        ("do", "south", (), (), (), 1, 0),
        ("say", "done"),
    )),
)


def plain_world():
    return World(*PLAIN)


def rich_world():
    return World(*RICH)


def nested(shell, depth):
    """A tuple, list or dict in one, in one, ... so deep."""
    value = shell()
    for _ in range(depth - 1):
        value = {"in": value} if shell is dict else shell([value])
    return value


# No name, no number of a row, no tuple of what a world or schemes have anywhere.
JUNK = (
    None, True, False, -1, 12, 99, 10 ** 17, "", "A", "x1", "a b", "-", "caf\u00e9", "\u0430", "ab\n", "abcdefghi",
    "a" * 4000, [], {}, [()], {"a": 1}, (None,), (True,), (0,), ("",), ([],), ({},), ((((),),),),
    nested(tuple, 30), nested(list, 30), nested(dict, 30),
)


def spoiled(value):
    """All values that have junk, or a list for a tuple, or a tuple for a string in one place of this one."""
    for junk in JUNK:
        yield junk
    if isinstance(value, str):
        yield tuple(value)
        yield [value]
        yield (value,)
    if isinstance(value, tuple):
        yield list(value)
        for place, member in enumerate(value):
            for other in spoiled(member):
                yield value[:place] + (other,) + value[place + 1:]


def changed(values, place, value):
    """These values with another one in this place."""
    return values[:place] + (value,) + values[place + 1:]
