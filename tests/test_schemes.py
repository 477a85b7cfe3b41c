"""Schemes: which values are schemes of a world."""

import itertools
import unittest

from tests.samples import JUNK, PA, RICH_SCHEMES, changed, plain_world, rich_world, spoiled
from unlikekeys import schemes
from unlikekeys.schemes import is_schemes
from unlikekeys.worlds import World

ANSWERS = {
    "put": ("done", "refused", "again"),
    "drop": ("done", "none", "again"),
    "look": ("there", "none", "again"),
    "move": ("done", "again"),
}
STEP = ("do", "a", (), (), (), 1, 1)
AGAIN = ("say", "again")


def scheme(*rows, name="s", sort="put", watch=()):
    return (name, sort, watch, rows)


class SchemesCase(unittest.TestCase):
    def setUp(self):
        self.world = plain_world()
        self.rich = rich_world()

    def check(self, expected, value, world=None):
        before = repr(value)
        self.assertIs(is_schemes(world or self.world, value), expected, value)
        self.assertEqual(repr(value), before)

    def accept(self, *value, world=None):
        self.check(True, value, world)

    def reject(self, *value, world=None):
        self.check(False, value, world)


class Any(SchemesCase):
    def test_samples(self):
        self.accept(PA)
        self.accept(*RICH_SCHEMES, world=self.rich)
        for one in RICH_SCHEMES:
            self.accept(one, world=self.rich)

    def test_by_name(self):
        self.assertIs(is_schemes(value=(PA,), world=self.world), True)
        self.assertIs(is_schemes(value=PA, world=self.world), False)

    def test_spoiled(self):
        for value in spoiled((PA,)):
            self.check(False, value)
        for value in spoiled(RICH_SCHEMES):
            self.check(False, value, self.rich)

    def test_the_empty_tuple_where_it_is_none(self):
        for place in (0, 1, 3):
            self.reject(changed(PA, place, ()))
        for place in (0, 1, 5, 6):
            self.reject(scheme(changed(STEP, place, ()), AGAIN))
        self.reject(scheme(STEP, ()))
        self.reject(scheme(STEP, ("say", ())))

    def test_of_another_world(self):
        self.check(False, (PA,), self.rich)
        self.check(False, RICH_SCHEMES, self.world)

    def test_again(self):
        value = (PA,)
        self.assertIs(is_schemes(self.world, value), is_schemes(plain_world(), (PA,)))
        self.assertEqual(self.world, plain_world())


class Count(SchemesCase):
    def test_count(self):
        three = [changed(PA, 0, name) for name in ("c", "b", "a")]
        self.accept(three[0])
        self.accept(*three)
        self.reject()
        self.reject(*three, PA)

    def test_different_names(self):
        self.reject(PA, PA)
        self.reject(PA, scheme(STEP, AGAIN, name="pa"))
        self.reject(PA, scheme(STEP, AGAIN), PA)
        self.accept(PA, changed(PA, 0, "pb"))

    def test_each_counts(self):
        self.reject(PA, changed(PA, 1, "make"))
        self.reject(changed(PA, 1, "make"), PA)

    def test_shape(self):
        self.reject(PA[:3])
        self.reject(PA + ((),))
        self.check(False, PA)
        self.check(False, [PA])


class Heads(SchemesCase):
    """Names, sorts and watches."""

    def test_names(self):
        for name in ("a", "z", "abcdefgh", "do", "put"):
            self.accept(changed(PA, 0, name))
        for name in ("", "abcdefghi", "A", "p1", "p_", "p\n", "\u00fc"):
            self.reject(changed(PA, 0, name))

    def test_sorts(self):
        for sort in ANSWERS:
            self.accept(scheme(STEP, AGAIN, sort=sort))
        for sort in ("", "Put", "puts", "done", ("put",), ["put"], {"put": 1}):
            self.reject(scheme(STEP, AGAIN, sort=sort))

    def test_watch(self):
        for watch in ((), ("at",), ("lock",), ("at", "lock"), ("row",)):
            self.accept(scheme(changed(STEP, 1, "south"), AGAIN, watch=watch), world=self.rich)
        for watch in (("at", "row"), ("at", "lock", "row"), ("lock", "row"), ("lock", "at"), ("at", "at"),
                      ("key",), ("at", "key"), ("east",), ("at", "none"), "at", ["at"], (("at",),), (0,)):
            self.reject(scheme(changed(STEP, 1, "south"), AGAIN, watch=watch), world=self.rich)


class Rows(SchemesCase):
    def test_count(self):
        for many in range(2, 13):
            self.accept(scheme(*[STEP] * (many - 1), AGAIN))
            self.accept(scheme(*[STEP] * many))
        self.reject(scheme())
        self.reject(scheme(changed(STEP, 5, 0)[:6] + (0,)))
        self.reject(scheme(*[STEP] * 13))
        self.reject(scheme(*[STEP] * 12, AGAIN))

    def test_row_0_is_no_say(self):
        self.reject(scheme(AGAIN, STEP))
        self.reject(scheme(AGAIN, AGAIN))
        self.accept(scheme(STEP, AGAIN, AGAIN, STEP))
        self.accept(scheme(changed(STEP, 0, "ask"), AGAIN))

    def test_words(self):
        for word in ("", "Do", "may", "does", "done", "saying"):
            self.reject(scheme(STEP, changed(STEP, 0, word)))
        self.reject(scheme(STEP, ("may", 1, STEP)))
        self.reject(scheme(STEP, ("asks", "again")))

    def test_shape(self):
        self.reject(scheme(STEP, STEP[:6]))
        self.reject(scheme(STEP, STEP + (1,)))
        self.reject(scheme(STEP, ("say",)))
        self.reject(scheme(STEP, ("say", "again", 1)))
        self.reject(scheme(STEP, ("do", "again")))
        self.reject(scheme(STEP, ("ask", "again")))
        self.reject(scheme(STEP, changed(STEP, 0, "say")))
        self.reject(scheme(STEP, "say"))
        self.reject(scheme(STEP, ()))
        self.check(False, (("s", "put", (), [STEP, AGAIN]),))
        self.check(False, (("s", "put", (), (STEP, list(AGAIN))),))
        self.check(False, (("s", "put", (), (STEP, list(STEP))),))

    def test_answers(self):
        words = ("done", "refused", "again", "none", "there", "on", "", "Done", "say", None, ("done",), ["done"], {}, 0)
        for sort, answer in itertools.product(ANSWERS, words):
            self.check(answer in ANSWERS[sort], (scheme(STEP, ("say", answer), sort=sort),))

    def test_each_row_counts(self):
        for place in range(4):
            rows = changed((STEP,) * 4, place, changed(STEP, 1, "c"))
            self.reject(scheme(*rows))


class Steps(SchemesCase):
    """The parts of a do or an ask."""

    def check_step(self, expected, *step, watch=(), world=None):
        for word in ("do", "ask"):
            value = (word, *step)
            self.check(expected, (scheme(value, AGAIN, watch=watch),), world)
            self.check(expected, (scheme(changed(STEP, 1, (world or self.world).houses[0]), value, watch=watch),), world)

    def test_houses(self):
        for house in ("a", "b"):
            self.check_step(True, house, (), (), (), 1, 1)
        for house in ("east", "south", "west"):
            self.check_step(True, house, (), (), (), 1, 1, world=self.rich)
        for house in ("c", "", "ra", "A", "ab", None, 0, ("a",), ["a"], {"a": 1}):
            self.check_step(False, house, (), (), (), 1, 1)

    def test_needs_and_makes(self):
        patterns = ((), (("at", "row"),), (("lock", "by"),), (("at", "none"), ("lock", "shut")))
        for needs, makes in itertools.product(patterns, patterns):
            self.check_step(True, "east", needs, makes, (), 1, 1, world=self.rich)

    def test_needs_and_makes_that_are_none(self):
        for pattern in ((("row", "full"),), (("at", "row"), ("row", "full")), (("lock", "by"), ("at", "row")),
                        (("at", "row"), ("at", "row")), (("at", "none"), ("at", "row")), (("at", "by"),),
                        (("key", "by"),), ("at", "row"), (("at",),), (("at", "row", "row"),), ((),),
                        [("at", "row")], (["at", "row"],), None, "", {}, []):
            self.check_step(False, "east", pattern, (), (), 1, 1, world=self.rich)
            self.check_step(False, "east", (), pattern, (), 1, 1, world=self.rich)

    def test_needs_and_makes_of_a_house_without_slots(self):
        self.check_step(True, "south", (), (), (), 1, 1, world=self.rich)
        self.check_step(False, "south", (("at", "row"),), (), (), 1, 1, world=self.rich)
        self.check_step(False, "south", (), (("at", "row"),), (), 1, 1, world=self.rich)

    def test_needs_and_makes_of_another_house(self):
        self.check_step(True, "a", (("ra", "row"),), (("ra", "no"),), (), 1, 1)
        self.check_step(False, "a", (("rb", "row"),), (), (), 1, 1)
        self.check_step(False, "a", (), (("rb", "row"),), (), 1, 1)
        self.check_step(False, "b", (("ra", "row"),), (), (), 1, 1)
        self.check_step(False, "b", (), (("ra", "row"), ("rb", "row")), (), 1, 1)

    def test_numbers(self):
        for then, other in itertools.product(range(-2, 5), repeat=2):
            expected = then in (0, 1) and other in (0, 1)
            self.check_step(expected, "a", (), (), (), then, other)
        for junk in (True, False, None, "1", "", (1,), [1], {}, 10 ** 17, -(10 ** 17)):
            self.check_step(False, "a", (), (), (), junk, 1)
            self.check_step(False, "a", (), (), (), 1, junk)

    def test_last_and_own_row(self):
        rows = [("do", "a", (), (), (), number, 11 - number) for number in range(12)]
        self.accept(scheme(*rows))
        for place, bad in itertools.product(range(12), (12, 13, -1)):
            self.reject(scheme(*changed(tuple(rows), place, ("do", "a", (), (), (), bad, 0))))
            self.reject(scheme(*changed(tuple(rows), place, ("do", "a", (), (), (), 0, bad))))


MARKS = ((), ("mark",), ("same",), ("mark", "same"))
# With a watched slot of the house, and without.
DO_FLAGS = {True: MARKS, False: ((),)}
ASK_FLAGS = {
    True: (*MARKS, ("kept",), ("kept", "same"), ("late",), ("late", "mark"), ("late", "same"),
           ("late", "mark", "same")),
    False: ((), ("kept",), ("late",)),
}


class Flags(SchemesCase):
    def check_flags(self, watch, house, watched):
        words = ("mark", "same", "kept", "late", "soon", "")
        for many in range(5):
            for flags in itertools.product(words, repeat=many):
                for word, good in (("do", DO_FLAGS), ("ask", ASK_FLAGS)):
                    row = (word, house, (), (), flags, 1, 1)
                    self.check(flags in good[watched], (scheme(row, AGAIN, watch=watch),), self.rich)

    def test_watched_house(self):
        for watch in (("at",), ("lock",), ("at", "lock")):
            self.check_flags(watch, "east", True)
        self.check_flags(("row",), "west", True)

    def test_nothing_watched(self):
        self.check_flags((), "east", False)

    def test_another_house_watched(self):
        self.check_flags(("row",), "east", False)
        self.check_flags(("at", "lock"), "west", False)
        self.check_flags(("at",), "south", False)

    def test_any_values(self):
        for flags in (*JUNK, "mark", ["mark"], ("mark", None), ("mark", 1), (("mark",),), (["mark"],), ({},),
                      {"mark": 1}):
            for word in ("do", "ask"):
                row = (word, "east", (), (), flags, 1, 1)
                self.reject(scheme(row, AGAIN, watch=("at",)), world=self.rich)

    def test_houses_of_one_scheme(self):
        marked = ("do", "b", (), (), ("mark",), 1, 1)
        self.accept(scheme(STEP, marked, watch=("rb",)))
        self.reject(scheme(STEP, marked, changed(marked, 1, "a"), watch=("rb",)))
        self.reject(scheme(STEP, marked, watch=("ra",)))


class Interface(unittest.TestCase):
    def test_defined_in_its_file(self):
        self.assertEqual(schemes.is_schemes.__module__, "unlikekeys.schemes")

    def test_a_world_with_one_slot(self):
        world = World(("a",), (("s", "a", ("no", "row")),), ((("s", "row"),),), (), ())
        put = scheme(("do", "a", (("s", "no"),), (("s", "row"),), (), 1, 2), ("say", "done"), ("say", "refused"))
        self.assertIs(is_schemes(world, (put,)), True)
