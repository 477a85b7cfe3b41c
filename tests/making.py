"""Worlds, patterns, rows and schemes, written shortly, and some schemes of which it is known what they do."""

from unlikekeys.worlds import World


def pattern(text):
    """`rb=no ra=row` as a pattern."""
    return tuple(sorted(tuple(word.split("=")) for word in text.split()))


def do(house, needs, makes, then, other, flags="", word="do"):
    return (word, house, pattern(needs), pattern(makes), tuple(flags.split()), then, other)


def ask(house, needs, makes, then, other, flags=""):
    return do(house, needs, makes, then, other, flags, "ask")


def say(answer):
    return ("say", answer)


def scheme(name, sort, *rows, watch=""):
    return (name, sort, tuple(watch.split()), rows)


def fresh(name):
    return (name, 0, False, "here")


def two_houses(*slots, lapses=()):
    """A row may stand in each of the houses a and b, but not in both; slots are further ones."""
    rows = (("ra", "a", ("no", "row")), ("rb", "b", ("no", "row")))
    return World(("a", "b"), (*rows, *slots), (pattern("ra=row"), pattern("rb=row")), (pattern("ra=row rb=row"),),
                 tuple((house, pattern(needs), pattern(makes)) for house, needs, makes in lapses))


def plain():
    return two_houses()


def claims(lapses=(("a", "ca=shut", "ca=open"),)):
    """With a claim at a, which lapses; a stand is (ra, rb, ca)."""
    return two_houses(("ca", "a", ("open", "shut")), lapses=lapses)


def looking_put(name, at, other, word="do", flags=""):
    """Look at the other house, then write: right alone, wrong beside the one the other way round."""
    return scheme(name, "put", do(other, f"r{other}=no", "", 1, 3),
                  do(at, f"r{at}=no", f"r{at}=row", 2, 3, flags, word), say("done"), say("refused"))


def marking_put(name, at, other, word="do", flags=""):
    """Mark, touch the other house, write if the mark is still there: right beside the one the other way round."""
    more = " ".join(sorted(["same", *flags.split()]))
    return scheme(name, "put",
                  do(at, f"r{at}=no", "", 1, 5, "mark"),
                  do(other, f"r{other}=no", f"r{other}=no", 2, 5, flags, word),
                  do(at, f"r{at}=no", f"r{at}=row", 3, 4, more, word),
                  say("done"), say("again"), say("refused"), watch=f"r{at}")


def claiming_put(name, at, other, word="do", flags=""):
    """Claim, look at the other house, write, let go: right beside the one the other way round, until claims lapse."""
    return scheme(name, "put",
                  do("a", "ca=open", "ca=shut", 1, 6, flags, word),
                  do(other, f"r{other}=no", "", 2, 4),
                  do(at, f"r{at}=no", f"r{at}=row", 3, 4, flags, word),
                  do("a", "", "ca=open", 5, 5), do("a", "", "ca=open", 7, 7),
                  say("done"), say("again"), say("refused"))


def drop(name, at, word="do", flags=""):
    return scheme(name, "drop", do(at, f"r{at}=row", f"r{at}=no", 1, 2, flags, word), say("done"), say("again"))


def honest_look(name):
    """Told "there" where a row stands, "again" where none was seen."""
    return scheme(name, "look", do("a", "ra=row", "", 2, 1), do("b", "rb=row", "", 2, 3), say("there"), say("again"))


def claiming_move(name):
    """Hand the row over from a to b under a claim: for a while a row stands in both."""
    return scheme(name, "move",
                  do("a", "ca=open ra=row", "ca=shut", 1, 4), do("b", "rb=no", "rb=row", 2, 4),
                  do("a", "", "ca=open ra=no", 3, 3), say("done"), say("again"))


def forgetful_look(name):
    """Two of it that are marked, and lose their marks by a lapse, come to what must never be."""
    return scheme(name, "look", do("a", "", "", 1, 1, "mark"), do("a", "", "", 4, 2, "same"),
                  do("b", "ca=no", "ca=one", 4, 3), do("b", "ca=one", "ca=two", 4, 4), say("again"), watch="ra")


def hasty_look(name):
    """It tells "there" if its mark is gone, whatever took it."""
    return scheme(name, "look", do("a", "", "", 1, 1, "mark"), do("a", "", "", 0, 2, "same"), say("there"), watch="ra")


def counting(lapses):
    """Rows at a; at b it is counted how many forgot, up to two, which must never be."""
    return World(("a", "b"), (("ra", "a", ("no", "row")), ("ca", "b", ("no", "one", "two"))), (pattern("ra=row"),),
                 (pattern("ca=two"),), tuple((house, pattern(needs), pattern(makes)) for house, needs, makes in lapses))


def bases():
    """(world, schemes) of many kinds, right and wrong."""
    return (
        (plain(), (looking_put("pa", "a", "b"),)),
        (plain(), (looking_put("pa", "a", "b"), looking_put("pb", "b", "a"))),
        (plain(), (looking_put("pa", "a", "b", "ask", "kept"), honest_look("l"))),
        (plain(), (marking_put("pa", "a", "b"), marking_put("pb", "b", "a"))),
        (plain(), (marking_put("pa", "a", "b"), marking_put("pb", "b", "a"), drop("da", "a"))),
        (plain(), (marking_put("pa", "a", "b", "ask"), marking_put("pb", "b", "a", "ask"))),
        (plain(), (marking_put("pa", "a", "b", "ask", "kept"), marking_put("pb", "b", "a", "ask", "kept"))),
        (plain(), (marking_put("pa", "a", "b", "ask", "late"), marking_put("pb", "b", "a", "ask", "late"))),
        (claims(()), (claiming_put("pa", "a", "b"), claiming_put("pb", "b", "a"))),
        (claims(()), (claiming_put("pa", "a", "b", "ask", "kept"), claiming_put("pb", "b", "a", "ask", "kept"))),
        (claims(()), (claiming_put("pa", "a", "b", "ask"), claiming_put("pb", "b", "a", "ask", "late"))),
        (claims(), (claiming_put("pa", "a", "b"), claiming_put("pb", "b", "a"))),
        (claims(), (claiming_put("pa", "a", "b"), drop("db", "b", "ask", "kept"))),
        (claims(()), (claiming_put("pa", "a", "b"), claiming_move("m"))),
        (counting((("a", "", "ra=no"),)), (forgetful_look("l"),)),
        (counting(()), (forgetful_look("l"),)),
        (two_houses(lapses=(("a", "ra=no", "ra=no"),)), (hasty_look("l"),)),
        (plain(), (hasty_look("l"), drop("d", "a"))),
    )
