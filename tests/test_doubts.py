"""Doubts: the fewest answers that can't be true, and what is sure about a key."""

import random
import unittest

from tests.plain_histories import chance_history, doubted, plain_doubts, plain_sure
from tests.samples import JUNK
from tests.test_histories import NO_KEYS, SAMPLE, longest_history, records
from unlikekeys import doubts as doubts_file
from unlikekeys.doubts import doubts, sure
from unlikekeys.errors import BadHistory, BadTime, NoKey, NoOrder
from unlikekeys.histories import is_history
from unlikekeys.orders import explained


class Doubts(unittest.TestCase):
    def check(self, text, expected):
        self.assertEqual(doubts(records(text)), expected)

    def test_none(self):
        self.assertEqual(doubts(()), ())
        self.assertEqual(doubts(SAMPLE), ())
        self.check("1 2 k put again, 3 - k look -", ())

    def test_one(self):
        self.check("1 2 k put done, 3 4 k put done", (0,))
        self.check("1 2 k look there", (0,))
        self.check("1 2 k put done, 3 4 k look there, 5 6 k look none", (2,))
        self.check("1 2 k look none, 3 4 k look there", (1,))

    def test_one_that_ended_with_again(self):
        self.check("1 2 k put again, 3 4 k look there", (0,))
        self.check("1 2 k look there, 3 4 k put again", (0,))
        self.check("1 2 k put done, 3 4 k drop again, 5 6 k put done, 7 8 k put refused", (0,))
        self.check("1 2 k put done, 3 4 k put refused, 5 6 k drop again, 7 8 k put done", (2,))

    def test_a_doubted_one_may_be_done_later(self):
        self.check("1 2 k put refused, 3 4 k look none, 5 6 k look there", (0,))
        self.check("1 2 k drop done, 3 4 k put done, 5 6 k look none", (0,))

    def test_a_doubted_look_is_gone(self):
        self.check("1 2 k look there, 3 4 k look there, 5 6 k look none", (0, 1))

    def test_of_equally_many_the_least(self):
        self.check("1 2 k look there, 3 4 k put done, 5 6 k look none", (0, 1))
        self.check("1 2 k put done, 3 4 l put done, 5 6 l put done, 7 8 k put done", (0, 1))
        self.check("1 2 k look there, 3 4 k look there, 5 6 l look there, 7 8 k put again", (0, 1, 2))

    def test_compared(self):
        sizes = set()
        for seed in range(400):
            chance = random.Random(f"doubts {seed}")
            history = chance_history(chance, chance.randint(1, 5), ("k", "l")[:chance.randint(1, 2)], chance.choice((0, 0.5, 0.8)),
                                     chance.choice((0, 0.3)))
            expected = plain_doubts(history)
            sizes.add(len(expected))
            self.assertEqual(doubts(history), expected, history)
        self.assertLessEqual({0, 1, 2, 3}, sizes)

    def test_long_histories(self):
        for seed in range(100):
            history = longest_history(random.Random(f"doubts long {seed}"), 0.6)
            found = doubts(history)
            self.assertEqual(found, tuple(sorted(set(found))))
            without = doubted(history, found)
            self.assertIs(is_history(without), True)
            self.assertIsNot(explained(without), None)
            for number in found:
                less = doubted(history, [one for one in found if one != number])
                self.assertIs(explained(less), None)
            self.assertEqual(found == (), explained(history) is not None)

    def test_bad_histories(self):
        for value in (*JUNK, list(SAMPLE), SAMPLE[::-1]):
            if value != ():
                for call in (doubts, lambda one: sure(one, "k", 0), lambda one: sure(one, 5, None)):
                    with self.assertRaises(BadHistory) as caught:
                        call(value)
                    self.assertIs(caught.exception.value, value)

    def test_defined_in_its_file(self):
        for name in ("doubts", "sure"):
            self.assertEqual(getattr(doubts_file, name).__module__, "unlikekeys.doubts")
        self.assertEqual(doubts(history=()), ())
        self.assertIs(sure(time=0, key="k", history=()), False)


class Sure(unittest.TestCase):
    def check(self, text, key, expected):
        """`F` for False, `T` for True, `?` for None, from time 0 on."""
        history = records(text)
        for time, sign in enumerate(expected):
            self.assertIs(sure(history, key, time), {"F": False, "T": True, "?": None}[sign], time)
        for time in (len(expected), 99, 10 ** 17):
            self.assertIs(sure(history, key, time), sure(history, key, len(expected) - 1))

    def test_each_time(self):
        self.check("2 4 k put done", "k", "FFF?T")
        self.check("1 2 k put done, 3 4 k drop done", "k", "FFTTFF")
        self.check("1 4 k put done, 2 3 k drop done", "k", "FF?FF")
        self.check("1 4 k put done, 2 3 k look none, 5 6 k put refused", "k", "FFF?TTT")
        self.check("1 4 k put done, 2 3 k look there", "k", "FF?TT")

    def test_not_ended(self):
        self.check("1 - k put -", "k", "FF??")
        self.check("1 - k put -, 3 4 k look there", "k", "FF??TT")
        self.check("1 - k put -, 3 4 k look none", "k", "FFFF??")
        self.check("1 - k look -, 2 - k drop -", "k", "FFFF")
        self.check("1 2 k put done, 3 - k drop -", "k", "FFTT??")

    def test_again(self):
        self.check("1 2 k put again", "k", "FFFF")

    def test_a_key_without_records(self):
        for time in range(5):
            self.assertIs(sure(SAMPLE, "l", time), False)
            self.assertIs(sure((), "k", time), False)

    def test_keys_apart(self):
        self.check("1 2 k put done, 3 5 l put done", "k", "FFTTTTT")
        self.check("1 2 k put done, 3 5 l put done", "l", "FFFF?T")

    def test_compared(self):
        found = set()
        for seed in range(300):
            chance = random.Random(f"sure {seed}")
            history = chance_history(chance, chance.randint(1, 5), ("k", "l")[:chance.randint(1, 2)], chance.choice((0.9, 1)),
                                     chance.choice((0, 0.3)))
            for key in ("k", "l"):
                for time in range(2 * len(history) + 4):
                    expected = plain_sure(history, key, time)
                    if isinstance(expected, str):
                        with self.assertRaises(NoOrder) as caught:
                            sure(history, key, time)
                        self.assertEqual(caught.exception.key, expected)
                    else:
                        found.add(expected)
                        self.assertIs(sure(history, key, time), expected)
        self.assertEqual(found, {True, False, None})

    def test_no_key(self):
        bad = records("1 2 k put done, 3 4 k put done")
        for value in NO_KEYS:
            for history, time in ((SAMPLE, 0), (SAMPLE, -1), (bad, 0), ((), None)):
                with self.assertRaises(NoKey) as caught:
                    sure(history, value, time)
                self.assertIs(caught.exception.value, value)

    def test_bad_time(self):
        bad = records("1 2 k put done, 3 4 k put done")
        for value in (-1, -10 ** 17, True, False, None, "0", "", (), (0,), [0], {}, {0: 0}):
            for history, key in ((SAMPLE, "k"), (bad, "k"), ((), "l")):
                with self.assertRaises(BadTime) as caught:
                    sure(history, key, value)
                self.assertIs(caught.exception.value, value)

    def test_no_order(self):
        history = records("1 2 m put done, 3 4 m put done, 5 6 l look there, 7 8 k put done")
        for key in ("k", "l", "m", "zz"):
            with self.assertRaises(NoOrder) as caught:
                sure(history, key, 3)
            self.assertEqual(caught.exception.key, "l")
