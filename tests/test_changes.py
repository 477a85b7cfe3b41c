"""Deeds of many keys: the plans with the fewest visits, and what each state costs from there on."""

import random
import unittest

from tests.plain_plans import carried_out, chance_task, fits, plain_heights, plain_plans
from tests.samples import JUNK, changed, spoiled
from unlikekeys import changes
from unlikekeys.changes import planned, shows_planned
from unlikekeys.errors import BadDeed, BadRows

ROWS = (("x", "a", "one"), ("y", "b", "two"), ("z", "a", "six"))
SWAP = (("x", "two"), ("y", "one"))


def rows_of(text):
    """`x a one, y b two` as rows, or `x two, y one` as a deed."""
    return tuple(tuple(part.split(" ")) for part in text.split(", "))


class PlansCase(unittest.TestCase):
    def check(self, rows, deed, visits, lent):
        rows, deed = rows_of(rows), rows_of(deed)
        found = planned(rows, deed)
        self.assertEqual(found[:2], (visits, lent))
        self.check_result(rows, deed, found)

    def check_result(self, rows, deed, found):
        visits, lent, plan, heights = found
        self.assertEqual((type(found), type(plan), type(heights)), (tuple, tuple, tuple))
        self.assertEqual(len(plan), visits)
        self.assertEqual(carried_out(self, rows, deed, plan), lent)
        self.assertEqual(heights, tuple(sorted((state, *told) for state, told in plain_heights(rows, deed).items())))
        self.assertIn((("old",) * len(deed), visits, lent), heights)
        self.assertIs(shows_planned(rows, deed, found), True)


class Plans(PlansCase):
    def test_one_house(self):
        self.check("x a one, y a two", "x two, y one", 1, 0)
        self.check("x a one, y a two, z a six", "x two, y six, z one", 1, 0)
        self.check("x a one, y a two, z a six", "x two, y ten", 1, 0)
        self.check("r a ra, s a sa, t a ta, u a ua, v a va, w a wa", "r sa, s ta, t ua, u va, v wa, w ra", 1, 0)

    def test_one_row(self):
        self.check("x a one", "x two", 1, 0)
        self.check("x a one, y b two", "x six", 1, 0)

    def test_free_keys(self):
        self.check("x a one, y b two", "x six, y ten", 2, 0)
        self.check("x a one, y b two", "x two, y six", 2, 0)
        self.check("x a one, y b two, z c six", "x two, y six, z ten", 3, 0)

    def test_exchange_over_two_houses(self):
        self.check("x a one, y b two", "x two, y one", 3, 1)

    def test_keys_that_go_round(self):
        self.check("x a one, y b two, z c six", "x two, y six, z one", 4, 1)
        self.check("x a one, y b two, z a six", "x two, y six, z one", 3, 1)
        self.check("x a one, y a two, z b six", "x two, y six, z one", 3, 1)

    def test_two_exchanges(self):
        self.check("u a ka, v b kb, x a kx, y b ky", "u kb, v ka, x ky, y kx", 3, 2)
        self.check("u a ka, v b kb, x c kx, y b ky", "u kb, v ka, x ky, y kx", 4, 2)

    def test_three_houses(self):
        self.check("r a ra, s b sa, t c ta, u a ua, v b va, w c wa", "r sa, s ta, t ua, u va, v wa, w ra", 4, 2)

    def test_compared(self):
        seen = set()
        for seed in range(250):
            rows, deed = chance_task(random.Random(seed))
            found = planned(rows, deed)
            seen.add(found[:2])
            self.check_result(rows, deed, found)
        self.assertGreater(len(seen), 5)

    def test_six_rows(self):
        for seed in range(6):
            rows, deed = chance_task(random.Random(f"six {seed}"), 6)
            self.check_result(rows, deed, planned(rows, deed))

    def test_heights(self):
        heights = planned(ROWS[:2], SWAP)[3]
        self.assertEqual(heights, (
            (("lent", "lent"), 2, 0), (("lent", "new"), 1, 0), (("lent", "old"), 2, 0), (("new", "lent"), 1, 0),
            (("new", "new"), 0, 0), (("old", "lent"), 2, 0), (("old", "old"), 3, 1)))

    def test_all_states_that_fit(self):
        for seed in range(30):
            rows, deed = chance_task(random.Random(f"states {seed}"))
            for state, _, _ in planned(rows, deed)[3]:
                self.assertIs(fits(rows, deed, state), True)

    def test_arguments_stay_as_they_are(self):
        before = repr((ROWS, SWAP))
        self.assertEqual(planned(ROWS, SWAP), planned(deed=SWAP, rows=ROWS))
        self.assertIs(shows_planned(value=planned(ROWS, SWAP), deed=SWAP, rows=ROWS), True)
        self.assertEqual(repr((ROWS, SWAP)), before)
        for name in ("planned", "shows_planned"):
            self.assertEqual(getattr(changes, name).__module__, "unlikekeys.changes")


class Shows(PlansCase):
    def setUp(self):
        self.found = planned(ROWS, SWAP)

    def refuse(self, value):
        self.assertIs(shows_planned(ROWS, SWAP, value), False, value)

    def test_other_plans_that_are_as_short(self):
        visits, lent, _, heights = self.found
        plans = [(plan, more) for plan, more in plain_plans(ROWS, SWAP, ("old", "old"), visits)]
        self.assertGreater(len(plans), 1)
        for plan, more in plans:
            self.assertIs(shows_planned(ROWS, SWAP, (visits, lent, plan, heights)), more == lent)

    def test_plans_that_lend_more(self):
        rows, deed = rows_of("x a one, y b two, z a six"), rows_of("x two, y one, z ten")
        visits, lent, plan, heights = planned(rows, deed)
        self.assertEqual((visits, lent), (3, 1))
        more = (("a", (("x", None), ("z", None))), ("b", (("y", "one"),)), ("a", (("x", "two"), ("z", "ten"))))
        other = (("a", (("x", None), ("z", "ten"))), ("b", (("y", "one"),)), ("a", (("x", "two"),)))
        self.assertEqual(carried_out(self, rows, deed, more), 2)
        self.assertIs(shows_planned(rows, deed, (visits, lent, more, heights)), False)
        self.assertIs(shows_planned(rows, deed, (visits, 2, more, heights)), False)
        self.assertIs(shows_planned(rows, deed, (visits, lent, other, heights)), True)

    def test_plans_by_chance(self):
        for seed in range(25):
            rows, deed = chance_task(random.Random(f"plans {seed}"), 3)
            visits, lent, _, heights = planned(rows, deed)
            for length in range(visits + 2):
                for many, (plan, more) in enumerate(plain_plans(rows, deed, ("old",) * len(deed), length)):
                    self.assertIs(shows_planned(rows, deed, (visits, lent, plan, heights)), (length, more) == (visits, lent))
                    if many > 40:
                        break

    def test_plans_that_are_none(self):
        visits, lent, _, heights = self.found
        good = (("a", (("x", None),)), ("b", (("y", "one"),)), ("a", (("x", "two"),)))
        self.assertIs(shows_planned(ROWS, SWAP, (visits, lent, good, heights)), True)
        first, second, third = good
        for plan in (
                (), good[:2], good[1:], (*good, ("a", ())), (first, first, third), (second, first, third), list(good),
                (("b", (("x", None),)), second, third), (("c", (("x", None),)), second, third),
                (("a", (("y", None),)), second, third), (("a", ()), second, third), (("a", (("x", "two"),)), second, third),
                (first, ("b", (("y", "two"),)), third), (first, ("b", (("y", "ten"),)), third),
                (first, ("b", (("y", None),)), third), (first, second, ("a", (("x", "one"),))), (first, second, ("a", (("x", None),))),
                (("a", (("x", None), ("x", None))), second, third), (first, second, ("a", (("x", "two"), ("x", "two")))),
                (first, second, ("a", (("x", "two"), ("z", "ten")))), (("a", (("x", None), ("z", None))), second, third),
                (("a", (("x", None), ("x", "two"))), second, third), (first, ("b", (("y", "one"), ("y", None))), third),
                (first, second, third, third), (first, ("b", (("y", "one"), ("z", "six"))), third),
                (first, ("b", [("y", "one")]), third), (first, ["b", (("y", "one"),)], third)):
            self.refuse((visits, lent, plan, heights))

    def test_parts_with_one_more(self):
        visits, lent, _, heights = self.found
        first, second, third = (("a", (("x", None),)), ("b", (("y", "one"),)), ("a", (("x", "two"),)))
        for plan in (((*first, ()), second, third), (first, second, (*third, None)), (first, ("b", (("y", "one", None),)), third),
                     (("a", (("x", None, None),)), second, third), (first, ("b",), third), (first, ("b", (("y",),)), third)):
            self.refuse((visits, lent, plan, heights))

    def test_a_plan_that_leaves_something_undone(self):
        rows, deed = rows_of("x a one, y a two"), rows_of("x six, y ten")
        visits, lent, _, heights = planned(rows, deed)
        for changes_made, fits_well in (((("x", "six"), ("y", "ten")), True), ((("x", "six"),), False), ((("y", "ten"),), False)):
            self.assertIs(shows_planned(rows, deed, (visits, lent, (("a", changes_made),), heights)), fits_well)

    def test_a_row_that_has_its_key_already(self):
        rows, deed = rows_of("x a one, y b two, z a six"), rows_of("x two, y one, z ten")
        visits, lent, _, heights = planned(rows, deed)
        for last, fits_well in (((("x", "two"),), True), ((("x", "two"), ("z", "ten")), False), ((("x", "two"), ("z", None)), False)):
            plan = (("a", (("x", None), ("z", "ten"))), ("b", (("y", "one"),)), ("a", last))
            self.assertIs(shows_planned(rows, deed, (visits, lent, plan, heights)), fits_well)

    def test_changes_ascending(self):
        rows, deed = rows_of("x a one, y a two"), rows_of("x two, y one")
        visits, lent, _, heights = planned(rows, deed)
        self.assertIs(shows_planned(rows, deed, (visits, lent, (("a", (("x", "two"), ("y", "one"))),), heights)), True)
        self.assertIs(shows_planned(rows, deed, (visits, lent, (("a", (("y", "one"), ("x", "two"))),), heights)), False)

    def test_one_thing_otherwise(self):
        for other in spoiled(self.found):
            self.assertIs(shows_planned(ROWS, SWAP, other), repr(other) == repr(self.found), other)
        visits, lent, plan, heights = self.found
        for other in ((visits + 1, lent, plan, heights), (visits, lent + 1, plan, heights), (visits, True, plan, heights),
                      (visits, lent, plan, heights[1:]), (visits, lent, plan, heights + heights[-1:]),
                      (visits, lent, plan, heights[::-1]), self.found[:3], (*self.found, ())):
            self.refuse(other)
        for place, (state, one, two) in enumerate(heights):
            for height in ((state, one + 1, two), (state, one, two + 1), (state, bool(one), two), (state, one, bool(two)),
                           (state[::-1] + ("old",), one, two)):
                self.refuse((visits, lent, plan, changed(heights, place, height)))
        self.assertIs(shows_planned(ROWS, SWAP, self.found), True)


class Errors(unittest.TestCase):
    def refuse(self, rows, deed, error, kept):
        for call in (planned, lambda *both: shows_planned(*both, None)):
            with self.assertRaises(error) as caught:
                call(rows, deed)
            self.assertIs(caught.exception.value, kept)

    def test_bad_rows(self):
        for value in (*JUNK, list(ROWS), ROWS[::-1], ROWS[0], (ROWS,), ROWS + (("zz", "a", "one"),),
                      ROWS[:1] + (("x", "b", "two"),), ROWS[:1] + ROWS[:1], (("x", "a"),), (("x", "a", "one", "one"),),
                      (["x", "a", "one"],), (("X", "a", "one"),), (("x", "", "one"),), (("x", "a", None),),
                      (("abcdefghi", "a", "one"),)):
            if value != ():
                self.refuse(value, SWAP, BadRows, value)
                self.refuse(value, None, BadRows, value)

    def test_spoiled_rows(self):
        for value in spoiled(ROWS):
            if repr(value) not in (repr(ROWS), "()"):
                self.refuse(value, SWAP, BadRows, value)

    def test_rows_without_any(self):
        self.refuse((), SWAP, BadDeed, SWAP)
        empty = ()
        self.refuse(empty, empty, BadDeed, empty)

    def test_many_rows(self):
        rows = tuple(sorted((a + b, "h", "k" + a + b) for a in "abcdefgh" for b in "abcdefgh"))
        self.assertEqual(planned(rows, (("aa", "free"),))[:3], (1, 0, (("h", (("aa", "free"),)),)))

    def test_bad_deeds(self):
        for value in (*JUNK, list(SWAP), SWAP[::-1], SWAP[0], (SWAP,), (("x", "one"),), (("x", "two"),), (("x", "six"), ("y", "one")),
                      (("q", "ten"),), (("x", "ten"), ("x", "two")), (("x", "ten"), ("x", "ten")), (("x", "ten"), ("y", "ten")),
                      (("x", "ten"), ("y", "two")), (("x", None),), (("x",),), (("x", "ten", "a"),), (["x", "ten"],),
                      (("x", "Ten"),), (("x", ""),), (("x", "abcdefghi"),), (("x", 5),)):
            self.refuse(ROWS, value, BadDeed, value)

    def test_spoiled_deeds(self):
        for value in spoiled(SWAP):
            self.refuse(ROWS, value, BadDeed, value)

    def test_size_of_a_deed(self):
        rows = tuple((sign, "h", "k" + sign) for sign in "abcdefg")
        deed = tuple((sign, "n" + sign) for sign in "abcdefg")
        self.assertEqual(planned(rows, deed[:6])[0], 1)
        self.refuse(rows, deed, BadDeed, deed)
