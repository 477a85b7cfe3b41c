"""Judging: what is right, what goes wrong and how soon, and what comes to which stands."""

import math
import random
import unittest

from tests.chance import chance_event, claim_world, line_schemes
from tests.making import (ask, bases, claiming_put, claims, do, drop, fresh, hasty_look, honest_look, looking_put,
                          marking_put, pattern, plain, say, scheme, two_houses)
from tests.plain import plain_layers, plain_possible, plain_shortest
from tests.samples import JUNK, spoiled
from unlikekeys import judging
from unlikekeys.errors import BadSchemes, BadStands
from unlikekeys.judging import comes, judged
from unlikekeys.runs import played
from unlikekeys.schemes import is_schemes
from unlikekeys.worlds import World

PA = looking_put("pa", "a", "b")
PB = looking_put("pb", "b", "a")
NN, NR, RN, RR = ("no", "no"), ("no", "row"), ("row", "no"), ("row", "row")
PA1, PB1 = ("pa", 1, False, "here"), ("pb", 1, False, "here")


def count(run):
    return len([event for event in run if event[0] != "begin"])


class JudgingCase(unittest.TestCase):
    def judge(self, world, schemes):
        """What judged returns, with what can be told of it without knowing the schemes."""
        before = repr(schemes)
        found = judged(world, schemes)
        self.assertEqual(repr(schemes), before)
        self.assertEqual(repr(judged(world, schemes)), repr(found))
        if found[0] == "right":
            self.assertEqual(len(found), 2)
            self.assertEqual(list(found[1]), sorted(set(found[1])))
        else:
            word, run, layers = found
            self.assertEqual((word, len(layers)), ("wrong", count(run) - 1))
            wrong = played(world, schemes, run).wrong
            self.assertEqual(wrong[0], len(run) - 1)
        return found

    def check_right(self, world, schemes, table):
        self.assertEqual(repr(self.judge(world, schemes)), repr(("right", tuple(sorted(table)))))

    def check_wrong(self, world, schemes, word, many):
        found = self.judge(world, schemes)
        self.assertEqual((found[0], count(found[1])), ("wrong", many))
        self.assertEqual(played(world, schemes, found[1]).wrong[1], word)
        return found


class Right(JudgingCase):
    """Tables that can be told by hand."""

    def test_looking_put(self):
        self.check_right(plain(), (PA,), [(NR, (), (PA1,)), (RR, (), ())])

    def test_nothing_can_be_wrong(self):
        world = World(("a",), (("r", "a", ("no", "row")),), (pattern("r=row"),), (), ())
        self.check_right(world, (scheme("p", "put", do("a", "r=no", "r=row", 0, 0), do("a", "", "", 1, 1)),),
                         [(("no",), (*fresh("p"), "made"), ())])
        self.check_right(world, (scheme("l", "look", do("a", "", "", 1, 1), say("again")),), [])
        self.check_right(world, (scheme("m", "move", do("a", "r=no", "", 0, 1), say("again")),), [])

    def test_answers(self):
        """The look tells "there" behind a step that needs a row, so it must not have seen none of them go by."""
        world = World(("a",), (("r", "a", ("no", "row")),), (pattern("r=row"),), (), ())
        look = scheme("l", "look", do("a", "", "", 1, 1), do("a", "r=row", "", 2, 3), say("there"), say("none"))
        self.check_right(world, (look,), [])
        slow = scheme("l", "look", do("a", "r=row", "", 1, 2), do("a", "", "", 3, 3), do("a", "", "", 4, 4),
                      say("there"), say("none"))
        table = [(stand, ("l", row, False, "here", seen), ())
                 for stand in (("no",), ("row",)) for row, seen in ((1, "none"), (2, "row"))
                 if seen == ("row" if stand == ("row",) else "none")]
        self.check_right(world, (slow,), table)

    def test_only_a_lapse_could(self):
        world = two_houses(lapses=(("a", "ra=row", "ra=no"),))
        self.check_right(world, (honest_look("l"),), [(RN, (), ()), (RR, (), ())])

    def test_all_known_ones(self):
        right = [number for number, (world, schemes) in enumerate(bases()) if self.judge(world, schemes)[0] == "right"]
        self.assertEqual(right, [0, 2, 3, 4, 6, 8, 9, 12, 15, 17])

    def test_a_mark_that_guards(self):
        """A mark goes with the first row at a; nothing guards against rows at b."""
        rows = (do("a", "ra=no", "", 1, 3, "mark"), do("a", "", "ra=row", 2, 3, "same"), say("done"), say("again"))
        guarded = scheme("p", "put", *rows, watch="ra")
        marked = ("p", 1, True, "here")
        self.check_right(plain(), (guarded,), [
            (NR, (), ()), (RR, (), ()), (RN, (*marked, "both"), ()), (RN, (*marked, "row"), ())])
        other = scheme("q", "put", do("b", "rb=no", "rb=row", 1, 2), say("done"), say("again"))
        self.check_wrong(plain(), (guarded, other), "never", 3)


class Wrong(JudgingCase):
    """Runs of which it is known how many events they have."""

    def test_both_look_both_write(self):
        _, _, layers = self.check_wrong(plain(), (PA, PB), "never", 4)
        self.assertEqual(layers, (
            ((NR, (), (PA1,)), (RN, (), (PB1,)), (RR, (), ())),
            ((NN, (), (PA1, PB1)),),
            ((NN, (), (PA1,)), (NN, (), (PB1,)))))

    def test_at_once(self):
        for lapses, row, word in (
                ((), do("a", "", "ra=row", 1, 1), "answer"),
                ((("a", "", "ra=row"),), do("a", "", "", 0, 1), "moment")):
            found = self.check_wrong(two_houses(lapses=lapses), (scheme("p", "put", row, say("again")),), word, 1)
            self.assertEqual(found[2], ())

    def test_never_at_once(self):
        world = World(("a",), (("r", "a", ("no", "bad")), ("s", "a", ("no", "row"))), (pattern("s=row"),),
                      (pattern("r=bad"),), ())
        self.check_wrong(world, (scheme("p", "look", do("a", "", "r=bad", 1, 1), say("again")),), "never", 1)

    def test_a_doer_that_wakes_up_late(self):
        """It puts without a look back; the other doer put and dropped in between is needed for nothing."""
        sleeper = scheme("p", "put", do("a", "ra=no", "", 1, 2), do("a", "", "ra=row", 3, 3), say("refused"), say("done"))
        found = self.check_wrong(plain(), (sleeper,), "answer", 4)
        self.assertEqual(len([event for event in found[1] if event[0] == "begin"]), 2)

    def test_a_lost_answer(self):
        """The put writes, its answer is lost, and it finds its own row."""
        asker = scheme("p", "put", ask("a", "ra=no", "ra=row", 1, 2), say("done"), say("refused"))
        found = self.check_wrong(plain(), (asker,), "answer", 2)
        self.assertEqual([event[0] for event in found[1]], ["begin", "stay", "step"])
        kept = scheme("p", "put", ask("a", "ra=no", "ra=row", 1, 2, "kept"), say("done"), say("refused"))
        self.assertEqual(self.judge(plain(), (kept,))[0], "right")

    def test_a_late_letter(self):
        late = scheme("p", "put", ask("a", "ra=no", "ra=row", 1, 2, "late"), say("done"), say("again"))
        found = self.check_wrong(plain(), (late,), "moment", 2)
        self.assertEqual([event[0] for event in found[1]], ["begin", "leave", "come"])

    def test_a_claim_that_lapses(self):
        schemes = (claiming_put("pa", "a", "b"), claiming_put("pb", "b", "a"))
        self.assertEqual(self.judge(claims(()), schemes)[0], "right")
        found = self.check_wrong(claims(), schemes, "never", 7)
        self.assertEqual([event[0] for event in found[1]].count("lapse"), 1)

    def test_a_receipt_that_comes_too_late(self):
        """What the receipt tells was so: a look that saw a row tells "there", whatever is now."""
        look = scheme("l", "look", ask("a", "ra=row", "", 1, 2, "kept"), say("there"), say("none"))
        self.assertEqual(self.judge(plain(), (look, PA, drop("d", "a")))[0], "right")

    def test_a_mark_that_is_taken(self):
        """The lapse takes the mark of the look, which then tells what it has not seen."""
        found = self.check_wrong(two_houses(lapses=(("a", "ra=no", "ra=no"),)), (hasty_look("l"),), "answer", 3)
        self.assertEqual([event[0] for event in found[1]], ["begin", "step", "lapse", "step"])
        unmarked, marked = ("l", 1, False, "here", "none"), ("l", 1, True, "here", "none")
        for layer, who in zip(found[2], (unmarked, marked)):
            self.assertIn((NN, who, ()), layer)

    def test_a_move_between_houses(self):
        """For a moment the row stands nowhere."""
        move = scheme("m", "move", do("a", "ra=row", "ra=no", 1, 2), do("b", "", "rb=row", 2, 2), say("done"))
        self.check_wrong(plain(), (PA, move), "moment", 3)

    def test_more_doers_of_one_scheme(self):
        """Three doers have to be at three rows for one to count behind the other; each case is there for both words of r."""
        world = World(("a",), (("c", "a", ("no", "one", "two", "three")), ("r", "a", ("no", "row"))), (pattern("r=row"),),
                      (pattern("c=three"),), ())
        rows = [do("a", f"c={low}", f"c={high}", 3, number + 1)
                for number, (low, high) in enumerate((("no", "one"), ("one", "two"), ("two", "three")))]
        found = self.check_wrong(world, (scheme("p", "look", *rows, say("again")),), "never", 6)
        self.assertEqual(len([event for event in found[1] if event[0] == "begin"]), 3)
        self.assertEqual([len(layer) for layer in found[2]], [4, 4, 8, 6, 4])

    def test_begins_do_not_count(self):
        """The look must begin ahead of the put, behind which it tells that there was none."""
        look = scheme("l", "look", do("a", "ra=row", "", 1, 2), say("none"), say("again"))
        self.check_wrong(plain(), (look, PA), "answer", 3)


class Reference(JudgingCase):
    """The same layers and tables as the document's words, taken literally, on all cases that are small enough."""

    def check(self, world, schemes, most_cases, stands=None):
        """Returns False if there are too many cases for it."""
        found = self.judge(world, schemes) if stands is None else comes(world, schemes, stands)
        layers = found[2] if len(found) == 3 else (found[1],)
        most = max([len(others) for layer in layers for _, _, others in layer], default=0) + 1
        possible, _ = plain_possible(world, schemes)
        many = math.comb(len(possible) + most, most) * len(world.stands)
        if many * (1 if stands is not None else 1 + 2 * len(possible)) > most_cases:
            return False
        all_layers, table = plain_layers(world, schemes, most, stands)
        if found[0] in ("right", "never"):
            self.assertEqual(repr(found[1]), repr(table))
            self.assertFalse(any((world.first, (), ()) in layer for layer in all_layers))
        else:
            self.assertEqual(repr(found[2]), repr(tuple(all_layers[:len(found[2])])))
            if found[1] != ():
                self.assertIn((world.first, (), ()), all_layers[len(found[2])])
        return True

    def test_known_schemes(self):
        checked = [number for number, (world, schemes) in enumerate(bases()) if self.check(world, schemes, 11000)]
        self.assertEqual(checked, [0, 1, 2, 12, 14, 15, 16, 17])
        for world, schemes in bases():
            for one in schemes:
                self.check(world, (one,), 4000)

    def test_known_schemes_with_stands(self):
        for number, (world, schemes) in enumerate(bases()):
            chance = random.Random(number)
            stands = tuple(stand for stand in world.stands if chance.random() < 0.3)
            self.check(world, schemes, 1500, stands)

    def test_by_chance(self):
        checked = 0
        for seed in range(120):
            chance = random.Random(seed)
            world = claim_world(chance)
            schemes = line_schemes(chance, world, 2, 3)
            checked += self.check(world, schemes, 2500)
            stands = tuple(stand for stand in world.stands if chance.random() < 0.3)
            self.check(world, schemes, 1500, stands)
        self.assertGreater(checked, 60)


class AllNumbers(JudgingCase):
    """Guarantees (a) and (b): the same as a plain search over runs; many doers of right schemes do nothing wrong."""

    def check_search(self, world, schemes, most_doers, most_events):
        found = self.judge(world, schemes)
        shortest = plain_shortest(world, schemes, most_doers, most_events)
        if found[0] == "right":
            self.assertIs(shortest, None)
            return
        many = count(found[1])
        if len(found[1]) - many <= most_doers and many <= most_events:
            self.assertEqual(shortest, many)
        else:
            self.assertTrue(shortest is None or shortest >= many)

    def test_known_schemes(self):
        for world, schemes in bases():
            self.check_search(world, schemes, 2, 6)

    def test_by_chance(self):
        for seed in range(150):
            chance = random.Random(seed)
            world = claim_world(chance)
            self.check_search(world, line_schemes(chance, world, 2, 3), 2, 4)
            self.check_search(world, line_schemes(chance, world, 1, 4), 3, 4)

    def test_many_doers(self):
        for number, (world, schemes) in enumerate(bases()):
            if judged(world, schemes)[0] == "right":
                self.run_many(world, schemes, random.Random(number))

    def run_many(self, world, schemes, chance):
        for _ in range(20):
            run, doers, letters = [], 0, 0
            for _ in range(120):
                event = chance_event(chance, world, schemes, doers, letters)
                if is_possible(world, schemes, run, event):
                    run.append(event)
                    doers += event[0] == "begin"
                    letters += event[0] == "leave"
            play = played(world, schemes, tuple(run))
            self.assertIs(play.wrong, None)
            self.assertGreater(len(play.doers), 3)


def is_possible(world, schemes, run, event):
    try:
        played(world, schemes, (*run, event))
    except ValueError:
        return False
    return True


class Comes(JudgingCase):
    def come(self, world, schemes, stands):
        before = repr(stands)
        found = comes(world, schemes, stands)
        self.assertEqual(repr(stands), before)
        self.assertEqual(repr(comes(world, schemes, stands)), repr(found))
        if found[0] == "run":
            word, run, layers = found
            self.assertEqual(len(layers), max(count(run) - 1, 0))
            self.assertIn(played(world, schemes, run).last_stand, stands)
            for many in range(len(run)):
                self.assertNotIn(played(world, schemes, run[:many]).last_stand, stands)
        else:
            self.assertEqual(list(found[1]), sorted(set(found[1])))
        return found

    def test_no_stands(self):
        self.assertEqual(self.come(plain(), (PA, PB), ()), ("never", ()))

    def test_the_first_stand(self):
        for stands in ((NN,), (NN, RR), plain().stands):
            self.assertEqual(self.come(plain(), (PA,), stands), ("run", (), ()))

    def test_stands_that_are_come_to(self):
        found = self.come(plain(), (PA,), (RN,))
        self.assertEqual(found, ("run", (("begin", "pa"), ("step", 0), ("step", 0)), (((NN, (), (PA1,)), (RN, (), ())),)))
        self.assertEqual(count(self.come(plain(), (PA, PB), (RR,))[1]), 4)
        self.assertEqual(count(self.come(plain(), (PA, PB), (NR, RR))[1]), 2)
        self.assertEqual(count(self.come(plain(), (PA, PB), (RN, RR))[1]), 2)

    def test_stands_that_are_not(self):
        self.assertEqual(self.come(plain(), (PA,), (NR,)), ("never", ((NR, (), ()),)))
        self.assertEqual(self.come(plain(), (PA,), (RR,)), ("never", ((NR, (), (PA1,)), (RR, (), ()))))
        self.assertEqual(self.come(plain(), (PA,), (NR, RR)), ("never", ((NR, (), ()), (RR, (), ()))))

    def test_wrong_events_lead_on(self):
        world = two_houses(("ca", "a", ("open", "shut")), lapses=(("a", "", "ra=row"), ("a", "ra=row", "ca=shut")))
        found = self.come(world, (honest_look("l"),), (("row", "no", "shut"),))
        self.assertEqual(found[1], (("lapse", 0), ("lapse", 1)))
        found = self.come(plain(), (PA, PB, drop("d", "a")), (RR,))
        self.assertEqual(count(found[1]), 4)

    def test_behind_a_broken_stand(self):
        """A stand that is come to only through one that must never be."""
        world = World(("a",), (("r", "a", ("no", "bad", "row")),), (pattern("r=row"),), (pattern("r=bad"),), ())
        schemes = (scheme("p", "put", do("a", "r=no", "r=bad", 1, 1), do("a", "r=bad", "r=row", 2, 2), say("done")),)
        self.assertEqual(count(self.come(world, schemes, (("row",),))[1]), 2)

    def test_no_heroes(self):
        for world, schemes in bases():
            for stand in world.stands:
                found = self.come(world, schemes, (stand,))
                members = found[1] if found[0] == "never" else [case for layer in found[2] for case in layer]
                self.assertEqual({hero for _, hero, _ in members} - {()}, set())

    def test_as_soon_as_a_plain_search(self):
        for world, schemes in bases():
            for stand in world.stands:
                found = self.come(world, schemes, (stand,))
                shortest = plain_shortest(world, schemes, 2, 5, (stand,))
                if found[0] == "never":
                    self.assertIs(shortest, None)
                elif count(found[1]) <= 5 and len(found[1]) - count(found[1]) <= 2:
                    self.assertEqual(shortest, count(found[1]))


class Errors(unittest.TestCase):
    def refuse(self, error, value, call, *arguments):
        with self.assertRaises(error) as caught:
            call(*arguments)
        self.assertIs(type(caught.exception), error)
        self.assertIs(caught.exception.value, value)

    def test_bad_schemes(self):
        world = plain()
        for value in (*JUNK, PA, [PA], (PA, PA)):
            self.refuse(BadSchemes, value, judged, world, value)
            self.refuse(BadSchemes, value, comes, world, value, ())
            self.refuse(BadSchemes, value, comes, world, value, None)

    def test_bad_stands(self):
        world = plain()
        for value in (*JUNK, [NN], NN, (RR, NN), (NN, NN), (list(NN),), (("no",),), (("no", "row", "no"),),
                      (("no", "none"),), (NN, None)):
            if value != ():
                self.refuse(BadStands, value, comes, world, (PA,), value)

    def test_spoiled(self):
        world = plain()
        for value in spoiled((NR, RN)):
            if value not in ((), (NR,), (RN,)):
                self.assertTrue(is_schemes(world, (PA,)))
                self.refuse(BadStands, value, comes, world, (PA,), value)

    def test_interface(self):
        for name in ("judged", "comes"):
            self.assertEqual(getattr(judging, name).__module__, "unlikekeys.judging")
        world = plain()
        self.assertEqual(judged(schemes=(PA,), world=world), judged(world, (PA,)))
        self.assertEqual(comes(stands=(RN,), schemes=(PA,), world=world), comes(world, (PA,), (RN,)))
