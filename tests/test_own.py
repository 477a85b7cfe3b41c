"""Schemes of one's own: what they are, and that they are right and not barred."""

import random
import unittest

from tests.chance import chance_event
from tests.samples import JUNK
from tests.test_judging import is_possible
from unlikekeys import own as own_file
from unlikekeys.barring import barred
from unlikekeys.errors import BadHouses
from unlikekeys.judging import judged
from unlikekeys.own import own
from unlikekeys.runs import played
from unlikekeys.schemes import is_schemes
from unlikekeys.tables import shows_right
from unlikekeys.worlds import World

HOUSES = (("a", "b"), ("a", "b", "c"), ("abcdefgh", "z"), ("here", "then"), ("do", "letter", "put"), ("no", "row"))


class Own(unittest.TestCase):
    def test_the_world(self):
        for houses in HOUSES:
            world, _ = own(houses)
            self.assertIsInstance(world, World)
            self.assertEqual((world.houses, world.lapses), (houses, ()))
            self.assertEqual([(house, words) for _, house, words in world.slots], [(house, ("no", "row")) for house in houses])
            for stand in world.stands:
                self.assertIs(world.has_row(stand), "row" in stand)
                self.assertIs(world.is_broken(stand), stand.count("row") > 1)

    def test_the_schemes(self):
        for houses in HOUSES:
            world, schemes = own(houses)
            self.assertIs(is_schemes(world, schemes), True)
            self.assertEqual([sort for _, sort, _, _ in schemes], ["put"] * len(houses))

    def test_each_put_by_itself(self):
        for houses in HOUSES:
            world, schemes = own(houses)
            for at, scheme in enumerate(schemes):
                play, run = self.alone(world, schemes, (("begin", scheme[0]),), 0)
                self.assertEqual(play.doers, (("ended", "done"),))
                self.assertEqual(play.last_stand, tuple("row" if place == at else "no" for place in range(len(houses))))
                for other in schemes:
                    after, _ = self.alone(world, schemes, (*run, ("begin", other[0])), 1)
                    self.assertEqual(after.doers[1], ("ended", "refused"))
                    self.assertEqual(after.last_stand, play.last_stand)

    def alone(self, world, schemes, run, doer):
        """The play behind steps of this doer until it ends."""
        for _ in range(20):
            play = played(world, schemes, run)
            if play.doers[doer][0] == "ended" and len(play.doers[doer]) == 2:
                self.assertIs(play.wrong, None)
                return play, run
            run = (*run, ("step", doer))
        self.fail("it goes round")

    def test_right(self):
        for houses in HOUSES:
            world, schemes = own(houses)
            found = judged(world, schemes)
            self.assertEqual(found[0], "right")
            self.assertIs(shows_right(world, schemes, found[1]), True)

    def test_not_barred(self):
        for houses in HOUSES:
            world, schemes = own(houses)
            for scheme in schemes:
                self.assertEqual(barred(world, schemes, scheme[0])[0], "never")

    def test_several_doers_at_once(self):
        for houses in HOUSES[:2]:
            world, schemes = own(houses)
            ends = set()
            for seed in range(60):
                chance = random.Random(seed)
                run, doers = [], 0
                for _ in range(80):
                    event = chance_event(chance, world, schemes, doers, 0)
                    if (event[0] != "begin" or doers < 6) and is_possible(world, schemes, run, event):
                        run.append(event)
                        doers += event[0] == "begin"
                play = played(world, schemes, tuple(run))
                self.assertIs(play.wrong, None)
                self.assertLessEqual(play.last_stand.count("row"), 1)
                ends |= {doer[1] for doer in play.doers if len(doer) == 2}
            self.assertEqual(ends, {"done", "refused", "again"})

    def test_equal_calls(self):
        self.assertEqual(own(("a", "b")), own(houses=("a", "b")))
        self.assertEqual(own_file.own.__module__, "unlikekeys.own")


class Errors(unittest.TestCase):
    def test_bad_houses(self):
        for value in (*JUNK, (), ("a",), ("a", "b", "c", "d"), ("a", "a"), ("a", "a", "b"), ("b", "a"), ("a", "c", "b"),
                      ["a", "b"], ("a", ["b"]), ("a", "B"), ("a", ""), ("a", "abcdefghi"), ("a", None), (1, 2), ("a", "b2"),
                      "ab", {"a": 1, "b": 2}, (("a", "b"), ("c", "d"))):
            with self.assertRaises(BadHouses) as caught:
                own(value)
            self.assertIs(caught.exception.value, value)
