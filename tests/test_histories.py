"""Histories and orders: which values are histories, and in which sequence one table would have answered so."""

import itertools
import random
import unittest

from tests.plain_histories import (chance_history, needed, plain_closed, plain_has_order, plain_is_history, plain_orders,
                                    plain_sequences)
from tests.samples import JUNK, changed, spoiled
from unlikekeys import histories, orders
from unlikekeys.errors import BadHistory, NoKey
from unlikekeys.histories import is_history
from unlikekeys.orders import closed, explained, shows_closed, shows_order

SAMPLE = ((1, 4, "k", "put", "done"), (2, 3, "k", "look", "none"), (5, 6, "k", "put", "refused"))
MIXED = ((2, 9, "k", "put", "done"), (3, None, "l", "drop", None), (4, 5, "k", "look", "again"), (6, None, "k", "look", None),
         (7, 8, "l", "put", "again"), (10, 20, "long", "drop", "none"))
NO_KEYS = tuple(value for value in JUNK if not isinstance(value, str)) + ("", "K", "key9", "abcdefghi", "k l", "k\n", ("k",), 0)


def records(text):
    """`1 4 k put done, 2 - l look -` as a history."""
    found = []
    for part in text.split(", "):
        begin, end, key, sort, answer = part.split(" ")
        found.append((int(begin), None if end == "-" else int(end), key, sort, None if answer == "-" else answer))
    return tuple(found)


class Values(unittest.TestCase):
    def refuse(self, value):
        self.assertIs(is_history(value), False, value)

    def test_histories(self):
        for value in ((), SAMPLE, MIXED, ((10 ** 17, 10 ** 17 + 1, "k", "look", "there"),), ((1, None, "k", "look", None),)):
            self.assertIs(is_history(value), True)

    def test_defined_in_its_file(self):
        self.assertEqual(histories.is_history.__module__, "unlikekeys.histories")
        for name in ("explained", "shows_order", "closed", "shows_closed"):
            self.assertEqual(getattr(orders, name).__module__, "unlikekeys.orders")

    def test_by_name(self):
        self.assertIs(is_history(value=()), True)
        self.assertEqual(explained(history=()), ())
        self.assertIs(shows_order(value=(), history=()), True)
        self.assertIs(closed(key="k", history=()), None)
        self.assertIs(shows_closed(value=(), key="k", history=()), False)

    def test_any_value(self):
        for value in (*JUNK, list(SAMPLE), SAMPLE[0], {"k": SAMPLE}, (SAMPLE,)):
            self.refuse(value)

    def test_spoiled(self):
        for history in (SAMPLE, MIXED):
            for value in spoiled(history):
                self.assertIs(is_history(value), plain_is_history(value), value)

    def test_kinds(self):
        for place, others in ((0, (0, -1, True, None, "1", 4)), (1, (0, 1, True, "4", None, 0, -4)),
                              (2, ("", "K", None, 5, "abcdefghi")), (3, ("move", "Put", None, "", 0, ("put",))),
                              (4, ("none", "there", "Done", None, "", 0, True, ["done"], ("done",)))):
            for other in others:
                self.refuse((changed((1, 4, "k", "put", "done"), place, other),))

    def test_length_of_a_record(self):
        self.refuse((SAMPLE[0][:4],))
        self.refuse((SAMPLE[0] + ("done",),))
        self.refuse((list(SAMPLE[0]),))

    def test_answers(self):
        fits = {("put", "done"), ("put", "refused"), ("put", "again"), ("drop", "done"), ("drop", "none"), ("drop", "again"),
                ("look", "there"), ("look", "none"), ("look", "again")}
        for sort in ("put", "drop", "look", "move"):
            for answer in ("done", "refused", "none", "there", "again", None):
                self.assertIs(is_history(((1, 2, "k", sort, answer),)), (sort, answer) in fits)
                self.assertIs(is_history(((1, None, "k", sort, answer),)), answer is None and sort != "move")

    def test_begin_less_than_end(self):
        for begin, end in ((2, 1), (2, 2), (0, 1), (-1, 2)):
            self.refuse(((begin, end, "k", "put", "done"),))

    def test_rising_and_different(self):
        one, two = (1, 4, "k", "put", "done"), (3, 6, "k", "look", "none")
        self.assertIs(is_history((one, two)), True)
        self.refuse((two, one))
        self.refuse((one, one))
        for begin, end in ((1, 6), (4, 6), (3, 4)):
            self.refuse((one, (begin, end, "k", "look", "none")))
        self.refuse(((1, None, "k", "put", None), (1, None, "l", "put", None)))
        self.refuse(((1, 5, "k", "put", "done"), (2, None, "l", "put", None), (5, None, "l", "put", None)))
        self.assertIs(is_history(((1, None, "k", "put", None), (2, None, "l", "put", None))), True)

    def test_limits(self):
        for many, keys, fits in ((8, "k", True), (9, "k", False), (24, "klm", True), (24, "kl", False), (25, "klmn", False),
                                 (24, "klmn", True)):
            value = tuple((2 * number + 1, 2 * number + 2, keys[number % len(keys)], "look", "none")
                          for number in range(many))
            self.assertIs(is_history(value), fits)

    def test_bad_histories(self):
        for value in (*JUNK, list(SAMPLE), SAMPLE[::-1], SAMPLE + ((8, 7, "k", "put", "done"),)):
            if value == ():
                continue
            for call in (explained, lambda one: shows_order(one, ()), lambda one: closed(one, "k"), lambda one: closed(one, 5),
                         lambda one: shows_closed(one, 5, None)):
                with self.assertRaises(BadHistory) as caught:
                    call(value)
                self.assertIs(caught.exception.value, value)

    def test_no_key(self):
        for value in NO_KEYS:
            for call in (lambda: closed(SAMPLE, value), lambda: shows_closed(SAMPLE, value, None)):
                with self.assertRaises(NoKey) as caught:
                    call()
                self.assertIs(caught.exception.value, value)


class Orders(unittest.TestCase):
    def check(self, text, order):
        history = records(text)
        self.assertIs(is_history(history), True)
        found = explained(history)
        if order is None:
            self.assertIs(found, None)
        else:
            self.assertIs(shows_order(history, found), True)
            self.assertIs(shows_order(history, order), True)
            self.assertIs(type(found), tuple)

    def test_the_empty_history(self):
        self.assertEqual(explained(()), ())
        self.assertIs(shows_order((), ()), True)

    def test_answers_one_behind_the_other(self):
        self.check("1 2 k put done, 3 4 k put refused, 5 6 k look there, 7 8 k drop done, 9 10 k look none, 11 12 k drop none",
                   (0, 1, 2, 3, 4, 5))
        for first in ("put refused", "drop done", "look there"):
            self.check(f"1 2 k {first}", None)
        for second in ("put done", "drop none", "look none"):
            self.check(f"1 2 k put done, 3 4 k {second}", None)

    def test_moments(self):
        self.check("1 4 k put done, 2 3 k look none", (1, 0))
        self.check("1 4 k put done, 2 3 k look there", (0, 1))
        self.check("1 2 k put done, 3 4 k look none", None)
        self.check("1 3 k put done, 2 4 k look none", (1, 0))
        self.check("1 5 k look none, 2 3 k put done", (0, 1))
        self.check("1 2 k look there, 3 4 k put done", None)

    def test_the_least_room(self):
        self.check("1 6 k put done, 2 5 k drop done, 3 4 k look none", (0, 1, 2))
        self.check("1 4 k put done, 2 5 k put refused, 3 6 k drop done", (0, 1, 2))

    def test_again_is_not_in_an_order(self):
        self.check("1 2 k put again, 3 4 k look none", (1,))
        self.check("1 2 k put again, 3 4 k look there", None)
        self.check("1 2 k look again, 3 4 k drop again", ())
        self.assertIs(shows_order(records("1 2 k put again, 3 4 k look none"), (0, 1)), False)

    def test_not_ended(self):
        self.check("1 - k put -, 3 4 k look there", (0, 1))
        self.check("1 - k put -, 3 4 k look none", (1,))
        self.check("1 - k put -, 3 4 k look none", (1, 0))
        self.check("1 - k put -, 3 4 k look none, 5 6 k look there", (1, 0, 2))
        self.check("1 2 k look there, 3 - k put -", None)
        self.check("1 - k look -, 2 3 k look none", (1,))
        self.assertIs(shows_order(records("1 - k look -, 2 3 k look none"), (1, 0)), False)
        self.check("1 2 k put done, 3 - k drop -, 5 6 k put done", (0, 1, 2))
        self.check("1 2 k put done, 3 - k put -, 5 6 k put done", None)

    def test_keys_apart(self):
        self.check("1 2 k put done, 3 4 l put done, 5 6 k put refused, 7 8 l drop done", (0, 1, 2, 3))
        self.check("1 2 k put done, 3 4 l look there", None)

    def test_moments_of_all_keys_rise(self):
        history = records("1 8 k put done, 2 7 l look none, 3 4 k look there, 5 6 l put done")
        found = explained(history)
        self.assertIs(shows_order(history, found), True)
        self.assertIs(shows_order(history, (0, 2, 1, 3)), True)
        self.assertIs(shows_order(history, (1, 3, 0, 2)), False)

    def test_no_orders(self):
        for value in (*JUNK, (0, 1, 2), (1, 0), (1, 0, 2, 2), (1, 0, 2, 0), (1, 0, 3), (1, 0, -1), (True, False, 2), [1, 0, 2],
                      (1, 0, "2"), (1, (0,), 2), (1, 0, 2, 10 ** 17), (2, 1, 0), ((1, 0, 2),)):
            self.assertIs(shows_order(SAMPLE, value), False, value)
        self.assertIs(shows_order(SAMPLE, (1, 0, 2)), True)

    def test_each_sequence_of_short_histories(self):
        counts = [0, 0]
        for seed in range(250):
            chance = random.Random(seed)
            history = chance_history(chance, chance.randint(0, 4), ("k", "l")[:chance.randint(1, 2)], chance.choice((0, 0.9, 1)))
            expected = set(plain_orders(history))
            found = explained(history)
            counts[found is None] += 1
            self.assertEqual(found is None, expected == set())
            if found is not None:
                self.assertIn(found, expected)
            for many in range(len(history) + 1):
                for sequence in itertools.permutations(range(len(history)), many):
                    self.assertIs(shows_order(history, sequence), sequence in expected)
        self.assertGreater(min(counts), 30)

    def test_longer_histories(self):
        counts = [0, 0]
        for seed in range(60):
            chance = random.Random(f"long {seed}")
            history = chance_history(chance, 7, ("k", "l"), chance.choice((0.5, 0.8, 1)))
            found = explained(history)
            counts[found is None] += 1
            self.assertEqual(found is not None, plain_has_order(history))
            if found is not None:
                self.assertIs(shows_order(history, found), True)
        self.assertGreater(min(counts), 10)

    def test_the_longest_histories(self):
        for seed in range(200):
            history = longest_history(random.Random(f"longest {seed}"), 1)
            self.assertIs(is_history(history), True)
            self.assertIs(shows_order(history, explained(history)), True)

    def test_arguments_stay_as_they_are(self):
        for history in (SAMPLE, MIXED):
            before = repr(history)
            self.assertEqual(explained(history), explained(history))
            self.assertEqual(repr(history), before)


def longest_history(chance, honest):
    """24 records, 8 of each key."""
    while True:
        history = chance_history(chance, 24, ("k", "l", "m"), honest)
        if all([record[2] for record in history].count(key) == 8 for key in ("k", "l", "m")):
            return history


class Closed(unittest.TestCase):
    def check(self, text, key, expected):
        history = records(text)
        self.assertEqual(repr(closed(history, key)), repr(expected))
        self.assertIs(shows_closed(history, key, expected), expected is not None)

    def test_with_an_order(self):
        self.check("1 2 k put done, 3 4 k put refused", "k", None)
        self.check("1 2 k put done, 3 4 k put done", "l", None)
        self.check("1 2 k put done, 3 4 k put done, 5 6 l put done", "l", None)
        self.check("1 2 k put again, 3 - k put -", "k", None)
        for value in (*JUNK, (), (((), False),), (((), False), ((0,), True)), (((), False), ((0,), True), ((0, 1), True))):
            self.assertIs(shows_closed(records("1 2 k put done, 3 4 k put refused"), "k", value), False)

    def test_without_an_order(self):
        self.check("1 2 k put done, 3 4 k put done", "k", (((), False), ((0,), True)))
        self.check("1 2 l put done, 3 4 k put done, 5 6 k put done", "k", (((), False), ((1,), True)))
        self.check("1 4 k put done, 2 3 k put done", "k", (((), False), ((0,), True), ((1,), True)))
        self.check("1 2 k drop done", "k", (((), False),))
        self.check("1 2 k drop done, 3 - k put -, 4 5 k put again", "k", (((), False),))
        self.check("1 2 k look there, 3 4 k put done", "k", (((), False),))

    def test_not_ended(self):
        self.check("1 - k put -, 2 3 k look there, 4 5 k look none", "k", (((), False), ((0,), True), ((0, 1), True)))
        self.check("1 - k put -, 2 3 k look none, 4 5 k drop done, 6 7 k drop done", "k",
                   (((), False), ((0,), True), ((0, 1), True), ((0, 1, 2), False), ((1,), False)))

    def test_compared(self):
        counts = [0, 0]
        for seed in range(250):
            chance = random.Random(f"closed {seed}")
            history = chance_history(chance, chance.randint(1, 6), ("k", "l")[:chance.randint(1, 2)], chance.choice((0, 0.7, 0.9)))
            for key in ("k", "l", "zz"):
                expected = plain_closed(history, key)
                counts[expected is None] += 1
                self.assertEqual(repr(closed(history, key)), repr(expected))
                self.assertIs(shows_closed(history, key, expected), expected is not None)
                self.assertIs(shows_closed(history, key, None), False)
        self.assertGreater(min(counts), 50)

    def test_other_values(self):
        history = records("1 2 k put done, 3 4 k put done")
        value = (((), False), ((0,), True))
        self.assertIs(shows_closed(history, "k", value), True)
        for other in spoiled(value):
            self.assertIs(shows_closed(history, "k", other), repr(other) == repr(value), other)
        for other in ((((), 0), ((0,), 1)), (((), False), ((False,), True)), value[::-1], value[:1], value[1:], value + value[1:],
                      (((), False), ((0,), True), ((0, 1), True)), (((), True), ((0,), True))):
            self.assertIs(shows_closed(history, "k", other), False, other)

    def test_none_of_them_has_all(self):
        for seed in range(100):
            history = longest_history(random.Random(f"closed long {seed}"), 0.7)
            for key in ("k", "l", "m"):
                found = closed(history, key)
                if found is not None:
                    self.assertEqual(found, tuple(sorted(found)))
                    for done, _ in found:
                        self.assertFalse(needed(history, key) <= set(done))

    def test_what_can_stand_first(self):
        history = records("1 3 k put done, 2 4 k put done, 5 6 k look none")
        self.assertEqual({tuple(sorted(one)) for one in plain_sequences(history)}, {(), (0,), (1,), (2,)})
        self.check("1 3 k put done, 2 4 k put done, 5 6 k look none", "k", (((), False), ((0,), True), ((1,), True)))
