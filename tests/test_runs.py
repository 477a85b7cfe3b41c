"""Runs: which are possible, and what has become of everything behind them."""

import random
import unittest

from tests.chance import chance_event, chance_schemes, chance_world
from tests.making import (ask, claims, do, drop, honest_look, looking_put, marking_put, pattern, plain, say, scheme,
                          two_houses)
from tests.plain import PlainPlay
from tests.samples import JUNK, spoiled
from unlikekeys import runs
from unlikekeys.errors import BadRun, BadSchemes
from unlikekeys.runs import is_run, played
from unlikekeys.worlds import World

PA = looking_put("pa", "a", "b")
PB = looking_put("pb", "b", "a")


def events(text):
    """`begin pa, step 0` as a run."""
    run = []
    for part in text.split(", ") if text else ():
        word, which = part.split(" ")
        run.append((word, which if word == "begin" else int(which)))
    return tuple(run)


class RunsCase(unittest.TestCase):
    def setUp(self):
        self.world = plain()
        self.schemes = (PA, PB)

    def play(self, text):
        run = events(text)
        self.assertIs(is_run(self.world, self.schemes, run), True)
        return played(self.world, self.schemes, run)

    def refuse(self, text, index=None):
        """The last event, or the one with this index, is the first that is not possible."""
        run = events(text)
        self.refuse_value(run, len(run) - 1 if index is None else index)

    def refuse_value(self, value, index):
        before = repr(value)
        self.assertIs(is_run(self.world, self.schemes, value), False)
        with self.assertRaises(BadRun) as caught:
            played(self.world, self.schemes, value)
        self.assertEqual(repr(caught.exception.index), repr(index))
        self.assertEqual(repr(value), before)

    def check(self, text, stand=None, doers=None, letters=None, moments=None, wrong="any"):
        play = self.play(text)
        for name, expected in (("last_stand", stand), ("doers", doers), ("letters", letters), ("moments", moments)):
            if expected is not None:
                self.assertEqual(repr(getattr(play, name)), repr(expected), text)
        if wrong != "any":
            self.assertEqual(repr(play.wrong), repr(wrong), text)


class Values(RunsCase):
    def test_the_empty_run(self):
        self.check("", ("no", "no"), (), (), (), None)

    def test_no_tuple(self):
        for value in (*JUNK, [], [("begin", "pa")], "begin pa", {}, None, 5):
            if not isinstance(value, tuple):
                self.refuse_value(value, None)

    def test_no_events(self):
        for junk in (*JUNK, "begin", ("begin",), ("begin", "pa", 0), ["begin", "pa"], (("begin",), "pa"),
                     ("Begin", "pa"), ("end", "pa"), ("", ""), (["begin"], "pa"), ({}, 0), (None, 0)):
            self.refuse_value((junk,), 0)
            self.refuse_value((("begin", "pa"), junk, ("step", 0)), 1)

    def test_spoiled(self):
        run = events("begin pa, step 0")
        for place, event in enumerate(run):
            for other in spoiled(event):
                if other not in ((), ("step", False)):
                    self.refuse_value(run[:place] + (other,) + run[place + 1:], place)
        self.refuse_value((("begin", "pa"), ("step", False)), 1)

    def test_the_first_index_counts(self):
        self.refuse("begin pa, step 1, step 0", 1)
        self.refuse("begin pa, step 0, come 0, step 5", 2)
        self.refuse_value((("begin", "pa"), ("begin", "pc"), 5), 1)

    def test_bad_schemes_come_first(self):
        for value in (*JUNK, PA, (PA, PA), [PA]):
            for call in (is_run, played):
                with self.assertRaises(BadSchemes) as caught:
                    call(self.world, value, None)
                self.assertIs(caught.exception.value, value)

    def test_by_name(self):
        run = events("begin pa, step 0")
        self.assertIs(is_run(value=run, schemes=(PA,), world=self.world), True)
        self.assertEqual(played(run=run, schemes=(PA,), world=self.world).doers, (("pa", 1, False, "here"),))

    def test_the_play(self):
        play = self.play("begin pa")
        self.assertEqual(set(vars(play)), {"last_stand", "doers", "letters", "moments", "wrong"})
        self.assertEqual(type(play).__module__, "unlikekeys.runs")
        for name in ("is_run", "played"):
            self.assertEqual(getattr(runs, name).__module__, "unlikekeys.runs")


class Begins(RunsCase):
    def test_numbers(self):
        self.check("begin pb, begin pa, begin pb", ("no", "no"),
                   (("pb", 0, False, "here"), ("pa", 0, False, "here"), ("pb", 0, False, "here")), (), (), None)
        self.check("begin pb, begin pa, step 1", doers=(("pb", 0, False, "here"), ("pa", 1, False, "here")))

    def test_names(self):
        for name in ("pc", "", "p", "PA", "paa", 0, None, True, ("pa",), ["pa"], {"pa": 1}):
            self.refuse_value((("begin", name),), 0)

    def test_many(self):
        run = (("begin", "pa"),) * 50 + (("step", 49),)
        doers = played(self.world, self.schemes, run).doers
        self.assertEqual(doers, (("pa", 0, False, "here"),) * 49 + (("pa", 1, False, "here"),))


class Steps(RunsCase):
    def test_done_and_not_done(self):
        self.check("begin pa, step 0, step 0", ("row", "no"), (("ended", "done"),), (), ((2, "put", 0),), None)
        self.check("begin pa, step 0, begin pb, step 0, step 1", ("row", "no"), (("ended", "done"), ("ended", "refused")))
        self.check("begin pa, step 0, begin pa, step 1, step 0, step 1", ("row", "no"),
                   (("ended", "done"), ("ended", "refused")), wrong=None)

    def test_needs_and_makes_of_several_slots(self):
        self.world = claims()
        self.schemes = (scheme("p", "move", do("a", "ca=open ra=no", "ca=shut ra=row", 1, 2), do("a", "", "", 1, 1),
                               do("b", "", "", 2, 2)),)
        self.check("begin p, step 0", ("row", "no", "shut"), (("p", 1, False, "here"),))
        self.check("begin p, begin p, step 0, step 1", ("row", "no", "shut"),
                   (("p", 1, False, "here"), ("p", 2, False, "here")))
        self.check("begin p, begin p, step 0, lapse 0, step 1", ("row", "no", "open"),
                   (("p", 1, False, "here"), ("p", 2, False, "here")))

    def test_its_own_row(self):
        self.schemes = (scheme("p", "look", do("a", "", "", 0, 0), say("again")),)
        self.check("begin p, step 0, step 0, step 0", doers=(("p", 0, False, "here"),), wrong=None)

    def test_doers_that_ended(self):
        for word in ("step", "stay", "leave"):
            self.refuse(f"begin pa, step 0, step 0, {word} 0")
        self.refuse("begin pa, begin pa, step 0, step 0, step 1, step 1, step 1")
        self.check("begin pa, begin pa, step 0, step 0, step 1, step 1",
                   doers=(("ended", "done"), ("ended", "refused")))

    def test_a_scheme_called_ended(self):
        self.schemes = (looking_put("ended", "a", "b"), looking_put("letter", "b", "a"))
        self.check("begin ended, begin letter, step 0, step 0", ("row", "no"),
                   (("ended", "done"), ("letter", 0, False, "here")), wrong=None)

    def test_numbers_that_are_none(self):
        for number in (1, 2, -1, 10 ** 17):
            for word in ("step", "stay", "leave", "come", "lapse"):
                self.refuse_value((("begin", "pa"), (word, number)), 1)
        self.refuse("step 0")
        for number in (True, False, None, "0", "", (0,), [0], {0: 0}):
            for word in ("step", "stay", "leave", "come", "lapse"):
                self.refuse_value((("begin", "pa"), ("begin", "pa"), (word, number)), 2)


class Asks(RunsCase):
    """Stays with and without "kept", receipts, leaving and coming."""

    def one(self, *rows, watch="", sort="move"):
        self.schemes = (scheme("p", sort, *rows, say("again"), watch=watch),)

    def test_stay_that_is_done(self):
        self.one(ask("a", "ra=no", "ra=row", 1, 2), do("b", "", "", 1, 1))
        self.check("begin p, stay 0", ("row", "no"), (("p", 0, False, "here"),), (), ((1, "put", 0),))
        self.check("begin p, stay 0, step 0", ("row", "no"), (("ended", "again"),))
        self.refuse("begin p, stay 0, stay 0")

    def test_stay_that_is_not_done(self):
        self.one(ask("a", "ra=row", "ra=no", 1, 1))
        self.refuse("begin p, stay 0")

    def test_stay_that_makes_nothing(self):
        self.one(ask("a", "", "", 1, 1))
        self.refuse("begin p, stay 0")
        self.one(ask("a", "", "ra=no", 1, 1))
        self.check("begin p, stay 0, stay 0", ("no", "no"), (("p", 0, False, "here"),), (), ())

    def test_stay_at_a_do(self):
        self.one(do("a", "", "ra=row", 1, 1))
        self.refuse("begin p, stay 0")

    def test_stay_needs_the_mark(self):
        self.one(ask("a", "", "ra=row", 1, 1, "same"), watch="ra")
        self.refuse("begin p, stay 0")

    def test_kept(self):
        self.one(ask("a", "ra=no", "ra=row", 1, 2, "kept"), ask("b", "", "", 1, 1), do("b", "", "", 2, 2))
        self.check("begin p, stay 0", ("row", "no"), (("p", 0, False, "then"),), (), ((1, "put", 0),))
        self.check("begin p, stay 0, step 0", ("row", "no"), (("p", 1, False, "here"),))
        self.check("begin p, begin p, step 0, stay 1", ("row", "no"), (("p", 1, False, "here"), ("p", 0, False, "other")))
        self.check("begin p, begin p, step 0, stay 1, step 1", ("row", "no"),
                   (("p", 1, False, "here"), ("p", 2, False, "here")))

    def test_kept_without_makes(self):
        self.one(ask("a", "ra=no", "", 1, 2, "kept"), do("b", "", "", 1, 1), do("b", "", "", 2, 2))
        self.check("begin p, stay 0", ("no", "no"), (("p", 0, False, "then"),))
        self.one(ask("a", "ra=row", "", 1, 2, "kept"), do("b", "", "", 1, 1), do("b", "", "", 2, 2))
        self.check("begin p, stay 0, step 0", ("no", "no"), (("p", 2, False, "here"),))

    def test_the_receipt_tells_what_was(self):
        self.one(ask("a", "ra=no", "ra=row", 1, 2, "kept"), do("a", "", "ra=no", 3, 3), do("b", "", "", 2, 2),
                 do("b", "", "", 3, 3))
        self.check("begin p, begin p, stay 0, stay 1, step 0, step 0, step 1", ("no", "no"),
                   (("p", 3, False, "here"), ("p", 2, False, "here")))

    def test_the_receipt_makes_nothing(self):
        self.one(ask("a", "", "ra=row", 1, 1, "kept"), do("a", "", "ra=no", 2, 2))
        self.check("begin p, begin p, stay 0, step 1, step 1, step 0", ("no", "no"),
                   (("p", 1, False, "here"), ("ended", "again")))

    def test_with_a_receipt_only_a_step(self):
        self.one(ask("a", "", "ra=row", 1, 1, "kept"))
        self.refuse("begin p, stay 0, stay 0")
        self.refuse("begin p, stay 0, leave 0")
        self.check("begin p, stay 0, step 0", doers=(("ended", "again"),))

    def test_ends_by_a_receipt(self):
        self.schemes = (scheme("p", "put", ask("a", "ra=no", "ra=row", 1, 2, "kept"), say("done"), say("refused")),)
        self.check("begin p, stay 0, step 0", doers=(("ended", "done"),), moments=((1, "put", 0),), wrong=None)
        self.check("begin p, begin p, stay 0, stay 1, step 1", doers=(("p", 0, False, "then"), ("ended", "refused")),
                   wrong=None)

    def test_kept_and_same(self):
        self.one(do("a", "", "", 1, 1, "mark"), ask("a", "", "ra=row", 2, 3, "kept same"), do("b", "", "", 2, 2),
                 do("b", "", "", 3, 3), watch="ra")
        self.check("begin p, step 0, stay 0", ("row", "no"), (("p", 1, False, "then"),))
        self.check("begin p, begin p, step 0, step 1, stay 0, stay 1", ("row", "no"),
                   (("p", 1, False, "then"), ("p", 1, False, "other")))

    def test_kept_keeps_the_mark_if_it_is_not_done(self):
        self.one(do("a", "", "", 1, 1, "mark"), ask("a", "ra=row", "ra=no", 2, 3, "kept"), do("b", "", "", 2, 2),
                 do("b", "", "", 3, 3), watch="ra")
        self.check("begin p, step 0, stay 0", ("no", "no"), (("p", 1, True, "other"),))
        self.check("begin p, step 0, stay 0, step 0", doers=(("p", 3, True, "here"),))

    def test_leave(self):
        self.one(ask("a", "ra=no", "ra=row", 1, 2, "late"), do("b", "", "", 1, 1), do("b", "", "", 2, 2))
        self.check("begin p, leave 0", ("no", "no"), (("p", 2, False, "here"),), (("p", 0, False, "letter"),), ())
        self.check("begin p, begin p, leave 1, leave 0", letters=(("p", 0, False, "letter"), ("p", 0, False, "letter")),
                   doers=(("p", 2, False, "here"), ("p", 2, False, "here")))
        self.check("begin p, step 0", ("row", "no"), (("p", 1, False, "here"),), ())
        self.check("begin p, stay 0", ("row", "no"), (("p", 0, False, "here"),), ())

    def test_leave_only_at_late(self):
        for row in (do("a", "", "ra=row", 1, 1), ask("a", "", "ra=row", 1, 1), ask("a", "", "ra=row", 1, 1, "kept")):
            self.one(row)
            self.refuse("begin p, leave 0")
        self.one(ask("a", "", "", 1, 1), ask("a", "", "", 1, 1, "late"))
        self.refuse("begin p, leave 0")
        self.check("begin p, step 0, leave 0", letters=(("p", 1, False, "letter"),))

    def test_come(self):
        self.one(ask("a", "ra=no", "ra=row", 1, 0, "late"), do("b", "", "", 1, 1))
        self.check("begin p, leave 0, come 0", ("row", "no"), (("p", 0, False, "here"),), (None,), ((2, "put", None),))
        self.refuse("begin p, leave 0, come 0, come 0")
        self.refuse("begin p, come 0")
        self.check("begin p, leave 0, leave 0, leave 0, come 1", ("row", "no"),
                   letters=(("p", 0, False, "letter"), None, ("p", 0, False, "letter")))

    def test_a_letter_that_is_not_done(self):
        self.one(ask("a", "ra=row", "ra=no", 1, 0, "late"))
        self.check("begin p, leave 0, come 0", ("no", "no"), (("p", 0, False, "here"),), (None,), ())

    def test_letters_of_doers_that_ended(self):
        self.schemes = (scheme("p", "put", ask("a", "", "ra=row", 1, 1, "late"), say("again")),)
        self.check("begin p, leave 0", doers=(("ended", "again"),), letters=(("p", 0, False, "letter"),), wrong=None)
        self.check("begin p, leave 0, come 0", ("row", "no"), wrong=(2, "moment"))

    def test_a_letter_is_no_doer(self):
        self.one(ask("a", "", "ra=row", 0, 0, "late"))
        self.refuse("begin p, leave 0, step 1")
        self.refuse("begin p, leave 0, stay 1")


class Lapses(RunsCase):
    def setUp(self):
        self.world = two_houses(("ca", "a", ("open", "shut")), ("cb", "b", ("open", "shut")),
                                lapses=(("a", "ca=shut", "ca=open"), ("b", "", "cb=shut")))
        self.schemes = (scheme("p", "move", do("a", "", "ca=shut", 0, 0), do("a", "", "", 1, 1)),)

    def test_possible(self):
        self.check("lapse 1", ("no", "no", "open", "shut"), (), (), (), None)
        self.check("lapse 1, lapse 1", ("no", "no", "open", "shut"))
        self.check("begin p, step 0, lapse 0", ("no", "no", "open", "open"))

    def test_not_possible(self):
        self.refuse("lapse 0")
        self.refuse("lapse 2")
        self.refuse("begin p, step 0, lapse 0, lapse 0")
        self.refuse_value((("lapse", True),), 0)
        self.refuse_value((("lapse", "1"),), 0)


class Marks(RunsCase):
    def setUp(self):
        self.world = two_houses(("ca", "a", ("open", "shut")), ("cb", "b", ("open", "shut")),
                                lapses=(("a", "", "ra=no"), ("b", "", "cb=open")))
        self.watcher = scheme("p", "move", do("a", "", "", 1, 1, "mark"), do("b", "", "rb=row", 2, 2),
                              do("a", "", "ca=shut", 3, 4, "same"), do("b", "", "", 3, 3), do("b", "", "", 4, 4),
                              watch="ca ra")
        self.schemes = (self.watcher,)

    def others(self, *rows, watch=""):
        self.schemes = (self.watcher, scheme("q", "move", *rows, do("b", "", "", 0, 0), watch=watch))

    def marked(self, text, marks, number=0):
        play = self.play(text)
        self.assertIs(play.doers[number][2], marks, text)

    def test_set_and_used(self):
        self.marked("begin p, step 0", True)
        self.marked("begin p, step 0, step 0", True)
        self.check("begin p, step 0, step 0, step 0", doers=(("p", 3, False, "here"),),
                   stand=("no", "row", "shut", "open"))

    def test_same_without_a_mark(self):
        self.schemes = (scheme("p", "move", do("a", "", "ra=row", 1, 2, "same"), say("done"), say("again"), watch="ra"),)
        self.check("begin p, step 0", ("no", "no", "open", "open"), (("ended", "again"),))

    def test_not_marked_if_it_is_not_done(self):
        self.schemes = (scheme("p", "move", do("a", "ra=row", "", 1, 1, "mark"), do("a", "", "", 1, 1), watch="ra"),)
        self.marked("begin p, step 0", False)

    def test_lost_by_steps_of_others(self):
        for makes, kept in (("ca=shut", False), ("ca=open", False), ("ra=no", False), ("ca=open ra=no", False)):
            self.others(do("a", "", makes, 1, 1))
            self.marked("begin p, begin q, step 0, step 1", kept)
        for makes in ("rb=row", "cb=shut", "cb=open rb=no"):
            self.others(do("b", "", makes, 1, 1))
            self.marked("begin p, begin q, step 0, step 1", True)
        self.others(do("a", "", "", 1, 1))
        self.marked("begin p, begin q, step 0, step 1", True)
        self.others(do("a", "ra=row", "ra=no", 1, 1))
        self.marked("begin p, begin q, step 0, step 1", True)

    def test_lost_by_stays(self):
        self.others(ask("a", "", "ca=open", 1, 1))
        self.marked("begin p, begin q, step 0, stay 1", False)
        self.others(ask("a", "", "ca=open", 1, 1, "kept"))
        self.marked("begin p, begin q, step 0, stay 1", False)
        self.marked("begin p, begin q, stay 1, step 0, step 1", True)
        self.others(ask("a", "ca=shut", "ca=open", 1, 1, "kept"))
        self.marked("begin p, begin q, step 0, stay 1", True)

    def test_lost_by_letters_that_come(self):
        self.others(ask("a", "", "ca=open", 1, 1, "late"))
        self.marked("begin p, begin q, step 0, leave 1", True)
        self.marked("begin p, begin q, step 0, leave 1, come 0", False)
        self.others(ask("a", "ca=shut", "ca=open", 1, 1, "late"))
        self.marked("begin p, begin q, step 0, leave 1, come 0", True)

    def test_lost_by_lapses(self):
        self.marked("begin p, step 0, lapse 0", False)
        self.marked("begin p, step 0, lapse 1", True)

    def test_lost_by_all_at_once(self):
        self.check("begin p, begin p, step 0, step 1, lapse 0", doers=(("p", 1, False, "here"),) * 2)
        self.check("begin p, begin p, step 0, lapse 0, step 1",
                   doers=(("p", 1, False, "here"), ("p", 1, True, "here")))

    def test_those_that_do_not_watch_the_slot_keep_theirs(self):
        self.others(do("b", "", "", 1, 1, "mark"), watch="cb rb")
        self.check("begin p, begin q, step 0, step 1, lapse 0",
                   doers=(("p", 1, False, "here"), ("q", 1, True, "here")))
        self.check("begin p, begin q, step 0, step 1, lapse 1",
                   doers=(("p", 1, True, "here"), ("q", 1, False, "here")))

    def test_a_mark_of_the_same_step_comes_behind(self):
        self.schemes = (scheme("p", "move", do("a", "", "ra=row", 1, 1, "mark"), do("a", "", "", 1, 1), watch="ra"),)
        self.check("begin p, begin p, step 0", doers=(("p", 1, True, "here"), ("p", 0, False, "here")))
        self.check("begin p, begin p, step 0, step 1", doers=(("p", 1, False, "here"), ("p", 1, True, "here")))

    def test_lost_by_ones_own_makes(self):
        for makes, kept in (("ra=no", False), ("", True)):
            self.schemes = (scheme("p", "move", do("a", "", "", 1, 1, "mark"), do("a", "", makes, 2, 2),
                                   do("a", "", "", 2, 2), watch="ra"),)
            self.marked("begin p, step 0, step 0", kept)
        self.schemes = (scheme("p", "move", do("a", "", "", 1, 1, "mark"), do("a", "", "ra=no", 2, 2, "same"),
                               do("a", "", "", 2, 2), watch="ra"),)
        self.marked("begin p, step 0, step 0", False)

    def test_same_and_mark_in_one_step(self):
        self.schemes = (scheme("p", "move", do("a", "", "", 1, 1, "mark"), do("a", "", "ra=no", 2, 2, "mark same"),
                               do("a", "", "", 2, 2), watch="ra"),)
        self.marked("begin p, step 0, step 0", True)

    def test_a_stay_marks_nothing_and_takes_the_own_mark(self):
        self.schemes = (scheme("p", "move", do("a", "", "", 1, 1, "mark"), ask("a", "", "ra=no", 1, 1, "mark"),
                               watch="ra"),)
        self.marked("begin p, step 0, stay 0", False)
        self.marked("begin p, step 0, step 0", True)
        self.schemes = (scheme("p", "move", ask("a", "", "ra=no", 1, 1, "mark"), do("a", "", "", 1, 1), watch="ra"),)
        self.marked("begin p, stay 0", False)

    def test_marks_of_the_doer_and_of_the_letter(self):
        self.schemes = (scheme("p", "move", do("a", "", "", 1, 1, "mark"), ask("a", "", "ra=no", 2, 2, "late same"),
                               do("a", "", "", 2, 2), watch="ra"),)
        self.check("begin p, step 0, leave 0", doers=(("p", 2, True, "here"),), letters=(("p", 1, True, "letter"),))
        self.check("begin p, step 0, leave 0, lapse 0", doers=(("p", 2, False, "here"),),
                   letters=(("p", 1, False, "letter"),))
        self.check("begin p, step 0, leave 0, come 0", doers=(("p", 2, False, "here"),), letters=(None,))

    def test_a_letter_with_same(self):
        self.schemes = (scheme("p", "move", do("a", "", "", 1, 1, "mark"), ask("a", "", "ra=row", 2, 2, "late same"),
                               do("a", "", "", 2, 2), watch="ra"),)
        self.check("begin p, step 0, leave 0, come 0", ("row", "no", "open", "open"))
        self.check("begin p, step 0, leave 0, lapse 0, come 0", ("no", "no", "open", "open"), letters=(None,))
        # A second letter loses its mark by the first one.
        self.check("begin p, begin p, step 0, step 1, leave 0, leave 1, come 1, lapse 0, come 0",
                   ("no", "no", "open", "open"), letters=(None, None))

    def test_the_letter_has_the_mark_of_its_leaving(self):
        rows = (ask("a", "", "ra=row", 1, 1, "late mark"), ask("a", "", "ra=row", 2, 2, "late"), do("a", "", "", 2, 2))
        self.schemes = (scheme("p", "move", *rows, watch="ra"),)
        self.check("begin p, leave 0", doers=(("p", 1, False, "here"),), letters=(("p", 0, False, "letter"),))
        self.check("begin p, step 0, leave 0", doers=(("p", 2, True, "here"),), letters=(("p", 1, True, "letter"),))
        self.check("begin p, leave 0, come 0", doers=(("p", 1, False, "here"),))
        # A mark that the doer gets later is not the letter's.
        rows = (ask("a", "", "ra=no", 1, 1, "late"), do("a", "", "", 2, 2, "mark"), do("a", "", "", 2, 2))
        self.schemes = (scheme("p", "move", *rows, watch="ra"),)
        self.check("begin p, leave 0, step 0", doers=(("p", 2, True, "here"),), letters=(("p", 0, False, "letter"),))

    def test_kept_while_nothing_is_made(self):
        self.schemes = (scheme("p", "move", do("a", "", "", 1, 1, "mark"), do("a", "ra=row", "ra=no", 1, 1), watch="ra"),)
        self.marked("begin p, step 0, step 0, step 0", True)


class Moments(RunsCase):
    def test_of_doers(self):
        self.schemes = (PA, drop("da", "a"))
        self.check("begin pa, begin da, step 0, step 0, step 1", moments=((3, "put", 0), (4, "drop", 1)), wrong=None)

    def test_of_stays(self):
        self.schemes = (looking_put("pa", "a", "b", "ask", "kept"), drop("da", "a", "ask"))
        self.check("begin pa, begin da, step 0, stay 0, stay 1", moments=((3, "put", 0), (4, "drop", 1)), wrong=None)

    def test_of_letters_and_lapses(self):
        self.world = two_houses(lapses=(("a", "ra=row", "ra=no"),))
        self.schemes = (scheme("p", "put", ask("a", "", "ra=row", 0, 0, "late"), say("again")),)
        self.check("begin p, leave 0, come 0, lapse 0", moments=((2, "put", None), (3, "drop", None)),
                   wrong=(2, "moment"))

    def test_a_drop_moment_of_a_put_and_the_other_way_round(self):
        self.schemes = (PA, scheme("p", "put", do("a", "", "ra=no", 1, 1), say("again")),
                        scheme("d", "drop", do("a", "", "ra=row", 1, 1), say("again")))
        self.check("begin pa, begin p, step 0, step 0, step 1", moments=((3, "put", 0), (4, "drop", 1)),
                   wrong=(4, "moment"))
        self.check("begin d, step 0", moments=((1, "put", 0),), wrong=(1, "moment"))

    def test_of_moves_and_looks(self):
        for sort in ("move", "look"):
            self.schemes = (scheme("m", sort, do("a", "ra=no", "ra=row", 0, 1), do("a", "", "ra=no", 0, 0)),)
            self.check("begin m, step 0, step 0, step 0", moments=((1, "put", 0), (3, "drop", 0)), wrong=(1, "moment"))

    def test_nothing_changes(self):
        self.schemes = (scheme("p", "put", do("a", "", "ra=row", 1, 1), do("a", "", "ra=row", 2, 2), say("done")),)
        self.check("begin p, step 0, step 0", moments=((1, "put", 0),), wrong=None)

    def test_from_one_row_to_another(self):
        self.world = World(("a",), (("r", "a", ("no", "one", "two")),), (pattern("r=one"), pattern("r=two")), (), ())
        self.schemes = (scheme("m", "move", do("a", "r=one", "r=two", 0, 0), say("done")),
                        scheme("p", "put", do("a", "r=no", "r=one", 1, 1), say("done")))
        self.check("begin p, begin m, step 0, step 1", ("two",), moments=((2, "put", 0),), wrong=None)


class Wrongs(RunsCase):
    def test_never(self):
        self.check("begin pa, begin pb, step 0, step 1, step 0, step 1", ("row", "row"), wrong=(5, "never"))

    def test_never_comes_first(self):
        """The event that breaks the stand is a second moment of nobody, and a wrong answer, too."""
        self.world = World(("a",), (("r", "a", ("no", "row", "bad")),), (pattern("r=bad"), pattern("r=row")),
                           (pattern("r=bad"),), (("a", (), pattern("r=bad")),))
        self.schemes = (scheme("p", "look", do("a", "", "r=bad", 1, 1), say("none")),)
        self.check("lapse 0", wrong=(0, "never"), moments=((0, "put", None),))
        self.check("begin p, step 0", wrong=(1, "never"), moments=((1, "put", 0),))

    def test_never_where_it_was_broken_before(self):
        """Only the first wrong event is told, so the stand is broken at first by a lapse without a moment."""
        self.world = World(("a",), (("r", "a", ("no", "bad", "row")),), (pattern("r=row"),), (pattern("r=bad"),),
                           (("a", (), pattern("r=bad")),))
        self.schemes = (scheme("p", "look", do("a", "", "", 1, 1), say("there")),)
        self.check("begin p, lapse 0, step 0", wrong=(1, "never"))
        self.check("begin p, step 0, lapse 0", wrong=(1, "answer"))

    def test_moment_comes_ahead_of_answer(self):
        self.schemes = (scheme("p", "look", do("a", "", "ra=row", 1, 1), say("none")),)
        self.check("begin p, step 0", wrong=(1, "moment"))
        self.schemes = (scheme("p", "put", do("a", "", "ra=row", 1, 1), do("a", "", "ra=no", 2, 2), say("refused")),)
        self.check("begin p, step 0, step 0", wrong=(2, "moment"))

    def test_a_second_moment(self):
        self.schemes = (scheme("p", "put", do("a", "", "ra=row", 0, 0), say("done")), drop("d", "a"))
        self.check("begin p, begin d, step 0, step 0, step 1, step 0", moments=((2, "put", 0), (4, "drop", 1), (5, "put", 0)),
                   wrong=(5, "moment"))
        self.check("begin p, begin p, begin d, step 0, step 2, step 1",
                   moments=((3, "put", 0), (4, "drop", 2), (5, "put", 1)), wrong=None)

    def test_only_the_first_one_is_told(self):
        self.check("begin pa, begin pb, step 0, step 1, step 0, step 1, begin pa, step 2", ("row", "row"),
                   (("ended", "done"), ("ended", "done"), ("ended", "refused")), wrong=(5, "never"))
        self.world = two_houses(lapses=(("a", "", "ra=row"), ("a", "", "ra=no")))
        self.check("lapse 0, lapse 1, lapse 0, begin pa", ("row", "no"), (("pa", 0, False, "here"),),
                   moments=((0, "put", None), (1, "drop", None), (2, "put", None)), wrong=(0, "moment"))

    def test_events_behind_a_wrong_one_count(self):
        """A doer makes its moment also behind a wrong event."""
        self.world = two_houses(lapses=(("a", "", "ra=row"), ("a", "", "ra=no")))
        self.check("lapse 0, lapse 1, begin pa, step 0, step 0", ("row", "no"), (("ended", "done"),),
                   moments=((0, "put", None), (1, "drop", None), (4, "put", 0)), wrong=(0, "moment"))


class Answers(RunsCase):
    """Each answer of each sort, by doers of which it is known what they saw and made."""

    def setUp(self):
        # A helper puts and drops at b, so that rows stand and go without the doer.
        self.helpers = (scheme("in", "put", do("b", "", "rb=row", 1, 1), say("done")),
                        scheme("out", "drop", do("b", "", "rb=no", 1, 1), say("done")))
        self.world = plain()

    def wrong(self, sort, answer, text, makes=""):
        """Whether the doer that ends last is told as wrong; a row stands at b behind "in", none behind "out"."""
        self.schemes = (scheme("p", sort, do("a", "", makes, 1, 1), do("a", "", "", 2, 2), say(answer)), *self.helpers)
        numbers = {}
        run = []
        for word in text.split():
            if word in ("in", "out"):
                run += [("begin", word), ("step", len(numbers))]
                numbers[len(numbers)] = word
            elif word == "p":
                run.append(("begin", "p"))
                number = len(numbers)
                numbers[number] = word
            else:
                run.append(("step", number))
        play = played(self.world, self.schemes, tuple(run))
        self.assertIn(play.wrong, (None, (len(run) - 1, "answer")), text)
        self.assertEqual(play.doers[number], ("ended", answer))
        return play.wrong is not None

    def check_answers(self, text, right, sorts, makes=""):
        answers = {"put": ("done", "refused", "again"), "drop": ("done", "none", "again"),
                   "look": ("there", "none", "again"), "move": ("done", "again")}
        for sort in sorts:
            for answer in answers[sort]:
                self.assertIs(self.wrong(sort, answer, text, makes), (sort, answer) not in right, (sort, answer, text))

    MOVES = {("move", "done"), ("move", "again")}
    AGAIN = {("put", "again"), ("drop", "again"), ("look", "again")}
    ROW = {("put", "refused"), ("look", "there")}
    NONE = {("drop", "none"), ("look", "none")}
    ALL = ("put", "drop", "look", "move")

    def test_no_row_at_all(self):
        self.check_answers("p go go", self.MOVES | self.AGAIN | self.NONE, self.ALL)
        self.check_answers("in out p go go", self.MOVES | self.AGAIN | self.NONE, self.ALL)

    def test_always_a_row(self):
        self.check_answers("in p go go", self.MOVES | self.AGAIN | self.ROW, self.ALL)

    def test_a_row_comes(self):
        for text in ("p in go go", "p go in go", "p in out go go", "p go in out go"):
            self.check_answers(text, self.MOVES | self.AGAIN | self.ROW | self.NONE, self.ALL)

    def test_a_row_goes(self):
        for text in ("in p out go go", "in p go out go", "in p out in go go"):
            self.check_answers(text, self.MOVES | self.AGAIN | self.ROW | self.NONE, self.ALL)

    def test_its_own_moment(self):
        self.check_answers("p go go", {("put", "done")}, ("put",), "ra=row")
        self.schemes = (scheme("p", "drop", do("b", "", "rb=no", 1, 1), say("done")), *self.helpers)
        for answer, wrong in (("done", None), ("none", (3, "answer")), ("again", (3, "answer"))):
            self.schemes = (scheme("p", "drop", do("b", "", "rb=no", 1, 1), say(answer)), *self.helpers)
            self.check("begin in, step 0, begin p, step 1", wrong=wrong)

    def test_the_moment_of_the_event_that_ends(self):
        for answer, wrong in (("done", None), ("refused", (1, "answer")), ("again", (1, "answer"))):
            self.schemes = (scheme("p", "put", do("a", "", "ra=row", 1, 1), say(answer)),)
            self.check("begin p, step 0", wrong=wrong)

    def test_what_was_ahead_of_the_begin_does_not_count(self):
        self.check_answers("in out p go go", self.MOVES | self.AGAIN | self.NONE, self.ALL)
        self.check_answers("in p go go", self.MOVES | self.AGAIN | self.ROW, self.ALL)

    def test_what_is_behind_the_end_does_not_count(self):
        self.schemes = (scheme("p", "look", do("a", "", "", 1, 1), say("there")), *self.helpers)
        self.check("begin p, step 0, begin in, step 1", wrong=(1, "answer"))

    def test_answers_by_leaving_and_by_receipts(self):
        self.schemes = (scheme("p", "put", ask("a", "ra=no", "ra=row", 2, 1, "late"), say("refused"), say("done")),)
        self.check("begin p, leave 0", doers=(("ended", "refused"),), wrong=(1, "answer"))
        self.schemes = (scheme("p", "put", ask("a", "ra=no", "ra=row", 1, 1, "kept"), say("again")),)
        self.check("begin p, stay 0, step 0", doers=(("ended", "again"),), wrong=(2, "answer"))

    def test_a_moment_by_a_letter_is_not_the_doers(self):
        self.schemes = (scheme("p", "put", ask("a", "ra=no", "ra=row", 2, 1, "late"), do("b", "", "", 2, 2), say("done")),)
        self.check("begin p, leave 0, step 0", wrong=(2, "answer"))

    def test_each_doer_by_itself(self):
        self.schemes = (scheme("p", "put", do("a", "ra=no", "ra=row", 1, 1), say("done")), honest_look("l"))
        self.check("begin p, begin p, begin l, step 0, step 2, step 1", wrong=(5, "answer"))


class Reference(RunsCase):
    """The same as the plain writing of the document, by chance."""

    def check_seed(self, seed):
        chance = random.Random(seed)
        world = chance_world(chance)
        schemes = chance_schemes(chance, world, 3)
        plainly, run = PlainPlay(world, schemes), []
        for _ in range(40):
            event = chance_event(chance, world, schemes, len(plainly.doers), len(plainly.letters))
            possible = plainly.take(len(run), event)
            self.assertIs(is_run(world, schemes, (*run, event)), possible, (seed, run, event))
            if possible:
                run.append(event)
        play = played(world, schemes, tuple(run))
        told = (play.last_stand, play.doers, play.letters, play.moments, play.wrong)
        self.assertEqual(repr(told), repr(plainly.told()), (seed, run))

    def test_by_chance(self):
        for seed in range(400):
            self.check_seed(seed)

    def test_equal_calls(self):
        world, schemes = plain(), (marking_put("pa", "a", "b"),)
        run = events("begin pa, step 0, step 0, step 0")
        first, second = (played(world, schemes, run) for _ in range(2))
        self.assertEqual(first, second)
        self.assertEqual(vars(first), vars(second))

    def test_plays_that_are_not_equal(self):
        """Each pair differs in one attribute alone."""
        world = claims((("a", "", "ra=row"), ("a", "", "ra=no"), ("a", "", "ca=shut")))
        schemes = (scheme("p", "put", ask("a", "ra=no", "ra=row", 0, 0, "late"), say("done")),
                   scheme("l", "look", do("a", "", "", 1, 1), say("there")), scheme("m", "move", do("a", "", "", 1, 1), say("done")))
        for name, one, other in (
                ("last_stand", "begin p", "begin p, lapse 2"), ("doers", "begin p", "begin p, begin p"),
                ("letters", "begin p", "begin p, leave 0"), ("moments", "lapse 0, lapse 1", "lapse 0, lapse 1, lapse 0, lapse 1"),
                ("wrong", "begin l, begin m, step 0, step 1", "begin l, begin m, step 1, step 0")):
            plays = [played(world, schemes, events(text)) for text in (one, other)]
            differs = [word for word, value in vars(plays[0]).items() if value != vars(plays[1])[word]]
            self.assertEqual(differs, [name])
            self.assertIs(plays[0] == plays[1], False)
            self.assertIs(plays[0] == played(world, schemes, events(one)), True)
            for value in (None, 0, (), vars(plays[0])):
                self.assertIs(plays[0] == value, False)
