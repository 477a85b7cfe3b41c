"""Cases: which values are cases, which one is within which, and what events lead to."""

import itertools
import random
import unittest

from tests.chance import chance_schemes, chance_world
from tests.making import (ask, bases, claims, do, drop, fresh, honest_look, looking_put, marking_put, pattern, plain, say,
                          scheme, two_houses)
from tests.plain import plain_cases, plain_led, plain_possible, plain_within
from tests.samples import JUNK, changed, spoiled
from unlikekeys import cases
from unlikekeys.cases import is_case, is_within, led
from unlikekeys.errors import BadCase, BadSchemes
from unlikekeys.worlds import World

PA = looking_put("pa", "a", "b")
PB = looking_put("pb", "b", "a")
SEENS = ("none", "row", "both", "made")
NO, ROW = ("no", "no"), ("row", "no")


def told(text):
    """`1 marked then` as what stands behind the name in a description."""
    number, *words = text.split()
    how = [word for word in words if word != "marked"]
    return (int(number), "marked" in words, how[0] if how else "here")


class CasesCase(unittest.TestCase):
    def setUp(self):
        self.world = plain()
        self.schemes = (PA, PB)

    def check(self, expected, value):
        before = repr(value)
        self.assertIs(is_case(self.world, self.schemes, value), expected, value)
        self.assertEqual(repr(value), before)

    def is_other(self, who):
        return is_case(self.world, self.schemes, (self.world.first, (), (who,)))

    def heroes(self, who):
        """What a hero with this description may have seen, at some stand."""
        return {seen for seen in SEENS for stand in self.world.stands
                if is_case(self.world, self.schemes, (stand, (*who, seen), ()))}


class Possible(CasesCase):
    """Each clause of what descriptions are possible, by one scheme called p."""

    def possible(self, *texts, rows, watch="", sort="move", made=None):
        self.world = claims()
        self.schemes = (scheme("p", sort, *rows, watch=watch),)
        expected = {told(text) for text in texts}
        makers = {told(text) for text in made or ()}
        for number, marked, how in itertools.product(range(len(rows)), (False, True), ("here", "then", "other", "letter")):
            who = ("p", number, marked, how)
            possible = who[1:] in expected
            self.assertIs(self.is_other(who), possible and who != fresh("p"), who)
            seens = {"none", "row", "both"} | ({"made"} if who[1:] in makers else set())
            self.assertEqual(self.heroes(who), seens if possible and how != "letter" else set(), who)

    def test_steps(self):
        self.possible("0", "1", "2", rows=(do("a", "", "", 1, 2), do("a", "", "", 1, 1), do("a", "", "", 2, 2)))
        self.possible("0", "1", rows=(do("a", "", "", 1, 2), do("a", "", "", 1, 1), say("done"), do("a", "", "", 1, 1)))
        self.possible("0", rows=(do("a", "", "", 1, 1), say("again")))

    def test_steps_whatever_needs_is(self):
        rows = (do("a", "", "ra=row", 1, 3), do("a", "ra=no", "", 2, 3), do("b", "", "", 2, 3), say("done"))
        self.possible("0", "1", "2", rows=rows)

    def test_a_mark(self):
        rows = (do("a", "", "", 1, 2, "mark"), do("a", "", "", 1, 1), do("a", "", "", 2, 2))
        self.possible("0", "1", "1 marked", "2", rows=rows, watch="ra")

    def test_same_only_with_a_mark(self):
        rows = (do("a", "", "", 1, 2, "same"), do("a", "", "", 1, 1), do("a", "", "", 2, 2))
        self.possible("0", "2", rows=rows, watch="ra")
        rows = (do("a", "", "", 1, 1, "mark"), do("a", "", "", 2, 3, "same"), do("a", "", "", 2, 2),
                do("a", "", "", 3, 3))
        self.possible("0", "1", "1 marked", "2", "2 marked", "3", "3 marked", rows=rows, watch="ra")

    def test_ones_own_makes_take_the_mark(self):
        rows = (do("a", "", "", 1, 1, "mark"), do("a", "", "ra=no", 2, 3), do("a", "", "", 2, 2),
                do("a", "", "", 3, 3))
        self.possible("0", "1", "1 marked", "2", "3", "3 marked", rows=rows, watch="ra")
        self.possible("0", "1", "1 marked", "2", "2 marked", "3", "3 marked", rows=rows, watch="ca")
        rows = (rows[0], do("a", "", "ra=no", 2, 3, "mark"), *rows[2:])
        self.possible("0", "1", "1 marked", "2", "2 marked", "3", "3 marked", rows=rows, watch="ra")

    def test_a_fresh_one_with_a_mark(self):
        rows = (do("a", "", "", 0, 1, "mark"), say("done"))
        self.possible("0", "0 marked", rows=rows, watch="ra")
        self.assertIs(self.is_other(("p", 0, True, "here")), True)
        self.assertIs(self.is_other(("p", 0, False, "here")), False)

    def test_stays_without_kept(self):
        self.possible("0", rows=(ask("a", "", "ra=row", 1, 1), say("done")))
        rows = (do("a", "", "", 1, 1, "mark"), ask("a", "", "ra=no", 2, 2), say("done"))
        self.possible("0", "1", "1 marked", rows=rows, watch="ra")

    def test_stays_with_kept(self):
        for makes in ("", "ra=row"):
            self.possible("0", "0 then", "0 other", rows=(ask("a", "", makes, 1, 1, "kept"), say("done")))
        self.possible("0", rows=(ask("a", "", "ra=row", 1, 1), say("done")))

    def test_marks_of_stays_with_kept(self):
        rows = (do("a", "", "", 1, 1, "mark"), ask("a", "", "ra=no", 2, 2, "kept"), say("done"))
        self.possible("0", "1", "1 marked", "1 then", "1 other", "1 marked other", rows=rows, watch="ra")
        self.possible("0", "1", "1 marked", "1 then", "1 marked then", "1 other", "1 marked other", rows=rows, watch="ca")

    def test_kept_and_same(self):
        rows = (ask("a", "", "", 1, 1, "kept same"), say("done"))
        self.possible("0", "0 other", rows=rows, watch="ra")
        rows = (do("a", "", "", 1, 1, "mark"), ask("a", "", "ra=no", 2, 2, "kept same"), say("done"))
        self.possible("0", "1", "1 marked", "1 then", "1 other", "1 marked other", rows=rows, watch="ra")

    def test_receipts(self):
        rows = (ask("a", "", "", 1, 2, "kept"), do("a", "", "", 1, 1), do("a", "", "", 2, 2))
        self.possible("0", "0 then", "0 other", "1", "2", rows=rows)
        # Only a receipt leads on here: the step itself needs a mark.
        rows = (do("a", "", "", 1, 1, "mark"), ask("a", "", "", 2, 3, "kept same"), do("a", "", "", 2, 2), say("done"))
        self.possible("0", "1", "1 marked", "1 then", "1 marked then", "1 other", "1 marked other", "2", "2 marked",
                      rows=rows, watch="ra")

    def test_leaving(self):
        rows = (ask("a", "", "", 1, 2, "late"), do("a", "", "", 1, 1), do("a", "", "", 2, 2))
        self.possible("0", "0 letter", "1", "2", rows=rows)
        rows = (ask("a", "", "", 1, 2, "late"), do("a", "", "", 1, 1), say("done"))
        self.possible("0", "0 letter", "1", rows=rows)
        rows = (do("a", "", "", 1, 1, "mark"), ask("a", "", "ra=no", 2, 2, "late same"), do("a", "", "", 2, 2))
        self.possible("0", "1", "1 marked", "1 letter", "1 marked letter", "2", "2 marked", rows=rows, watch="ra")

    def test_what_nobody_comes_to(self):
        rows = (do("a", "", "", 2, 2), ask("a", "", "ra=no", 1, 1, "late mark"), say("done"))
        self.possible("0", rows=rows, watch="ra")


class Made(CasesCase):
    """Where a hero may have made its moment."""

    def made(self, *texts, rows, watch="", sort="put"):
        self.schemes = (scheme("p", sort, *rows, watch=watch),)
        self.world = claims()
        found = {who for number, marked, how in itertools.product(
            range(len(rows)), (False, True), ("here", "then", "other", "letter"))
            for who in [(number, marked, how)] if "made" in self.heroes(("p", *who))}
        self.assertEqual(found, {told(text) for text in texts})

    LINE = (do("a", "", "", 1, 1), do("a", "ra=no", "ra=row", 2, 3), do("a", "", "", 4, 4), do("a", "", "", 3, 3),
            do("b", "", "", 4, 4))

    def test_behind_a_done_step(self):
        self.made("2", "4", rows=self.LINE)
        self.made("2", "4", rows=self.LINE, sort="drop")
        self.made(rows=self.LINE, sort="look")
        self.made(rows=self.LINE, sort="move")

    def test_a_slot_of_bears_with_any_word(self):
        for makes, made in (("ra=no", ("2", "4")), ("ca=shut ra=no", ("2", "4")), ("ca=shut", ()), ("", ())):
            self.made(*made, rows=changed(self.LINE, 1, do("a", "", makes, 2, 3)))

    def test_from_there_on(self):
        self.made("0", "1", "2", "3", "4", rows=changed(self.LINE, 4, do("b", "", "", 0, 0)))

    def test_behind_stays(self):
        rows = (ask("a", "", "ra=row", 1, 2), do("a", "", "", 1, 1), do("a", "", "", 2, 2))
        self.made("0", "1", "2", rows=rows)
        self.made("0 then", "1", rows=changed(rows, 0, ask("a", "", "ra=row", 1, 2, "kept")))
        # Behind a stay that is not done there is none, but behind leaving as behind anything.
        rows = (do("a", "", "ra=row", 1, 1), ask("a", "", "", 2, 3, "kept"), ask("a", "", "", 4, 3, "late"),
                do("a", "", "", 3, 3), do("a", "", "", 4, 4))
        self.made("1", "1 then", "1 other", "2", "3", "4", rows=rows)

    def test_not_behind_a_letter(self):
        rows = (ask("a", "", "ra=row", 1, 2, "late"), do("a", "", "", 1, 1), do("a", "", "", 2, 2))
        # The stay at row 0 makes the moment; from there the doer comes to both.
        self.made("0", "1", "2", rows=rows)
        rows = (do("a", "", "", 1, 1, "mark"), ask("a", "", "ra=row", 2, 3, "late same"), do("a", "", "", 2, 2),
                do("a", "", "", 3, 3))
        self.made("1", "2", "3", rows=rows, watch="ra")

    def test_marks(self):
        rows = (do("a", "", "ca=shut", 1, 1, "mark"), do("b", "", "rb=row", 2, 3), do("a", "", "", 2, 2),
                do("a", "", "", 3, 3))
        self.made("2", "2 marked", rows=rows, watch="ra")
        rows = changed(rows, 1, do("a", "", "ra=row", 2, 3))
        self.made("2", rows=rows, watch="ra")
        rows = changed(rows, 1, do("a", "", "ra=row", 2, 3, "same"))
        self.made("2", rows=rows, watch="ra")
        rows = (do("a", "", "ra=row", 1, 2, "same"), do("a", "", "", 1, 1), do("a", "", "", 2, 2))
        self.made(rows=rows, watch="ra")

    def test_each_scheme_by_itself(self):
        self.schemes = (PA, drop("da", "a"), honest_look("l"))
        for who in (fresh("pa"), ("pa", 1, False, "here"), fresh("da"), fresh("l"), ("l", 1, False, "here")):
            self.assertEqual(self.heroes(who), {"none", "row", "both"}, who)


class Values(CasesCase):
    def test_samples(self):
        for stand in self.world.stands:
            self.check(True, (stand, (), ()))
        self.check(True, (NO, ("pa", 1, False, "here", "none"), (("pa", 1, False, "here"), ("pb", 1, False, "here"))))

    def test_any_values(self):
        for value in (*JUNK, "case", [NO, (), ()], (NO, ()), (NO, (), (), ()), (NO, None, ()), (NO, (), None),
                      (NO, [], ()), (NO, (), []), (list(NO), (), ()), (("no",), (), ()), (("no", "none"), (), ())):
            self.check(False, value)

    def test_spoiled(self):
        value = (NO, ("pa", 1, False, "here", "both"), (("pa", 1, False, "here"), ("pb", 1, False, "here")))
        self.check(True, value)
        for other in spoiled(value):
            if other not in ((NO, (), value[2]), (*value[:2], ()), value):
                self.check(False, other)

    def test_kinds(self):
        for who in (("pa", True, False, "here"), ("pa", 1, 0, "here"), ("pa", 1, None, "here"), ("pa", 1, True, "here"),
                    ("pa", 1, False, "there"), ("pa", 1, False, "then"), ("pc", 1, False, "here"), ("pa", 2, False, "here"),
                    ("pa", 12, False, "here"), ("pa", -1, False, "here"), ["pa", 1, False, "here"],
                    ("pa", 1, False), ("pa", 1, False, "here", "none"), ("pa", "1", False, "here"),
                    (("pa",), 1, False, "here"), (["pa"], 1, False, "here"), ("pa", [1], False, "here"),
                    ("pa", 1, [], "here"), ("pa", 1, False, ["here"])):
            self.check(False, (NO, (), (who,)))
            if isinstance(who, tuple):
                self.check(False, (NO, (*who, "both"), ()))

    def test_seen_and_the_stand(self):
        for stand, seen in itertools.product(self.world.stands, (*SEENS, "", "any", None, 0, ("row",), ["row"])):
            expected = seen == "both" or seen == ("row" if "row" in stand else "none")
            for who in (fresh("pa"), ("pb", 1, False, "here")):
                self.check(expected, (stand, (*who, seen), ()))

    def test_a_hero_is_no_letter(self):
        self.schemes = (scheme("p", "put", ask("a", "", "ra=row", 1, 1, "late"), do("a", "", "", 1, 1)),)
        self.check(True, (NO, (), (("p", 0, False, "letter"),)))
        for seen in SEENS:
            self.check(False, (NO, ("p", 0, False, "letter", seen), ()))

    def test_others(self):
        one, other = ("pa", 1, False, "here"), ("pb", 1, False, "here")
        for others in ((), (one,), (other,), (one, one), (one, other), (one, one, one, other, other)):
            self.check(True, (NO, (), others))
            self.check(True, (NO, (*one, "none"), others))
        for others in ((other, one), (one, other, one), (fresh("pa"),), (fresh("pa"), one), (fresh("pb"), other), one,
                       [one], (one, list(other)), (one, ("pc", 1, False, "here"))):
            self.check(False, (NO, (), others))

    def test_fresh_heroes(self):
        self.check(True, (NO, (*fresh("pa"), "none"), ()))
        self.check(True, (ROW, (*fresh("pa"), "both"), ()))

    def test_bad_schemes_and_bad_cases(self):
        for value in (*JUNK, PA, [PA]):
            for call in (is_case, led):
                with self.assertRaises(BadSchemes) as caught:
                    call(self.world, value, None)
                self.assertIs(caught.exception.value, value)
        for value in (*JUNK, (NO, (), (fresh("pa"),)), (NO, ("pa", 1, False, "here", "row"), ())):
            with self.assertRaises(BadCase) as caught:
                led(self.world, self.schemes, value)
            self.assertIs(caught.exception.value, value)

    def test_interface(self):
        for name in ("is_case", "is_within", "led"):
            self.assertEqual(getattr(cases, name).__module__, "unlikekeys.cases")
        case = (NO, (), ())
        self.assertIs(is_case(value=case, schemes=(PA,), world=self.world), True)
        self.assertEqual(led(case=case, schemes=(PA,), world=self.world), led(self.world, (PA,), case))
        self.assertIs(is_within(other=case, one=case), True)


class Within(unittest.TestCase):
    ONE, OTHER = ("pa", 1, False, "here"), ("pb", 1, False, "here")

    def check(self, expected, one, other):
        self.assertIs(is_within(one, other), expected, (one, other))

    def test_without_heroes(self):
        bags = [(), (self.ONE,), (self.OTHER,), (self.ONE, self.ONE), (self.ONE, self.OTHER), (self.ONE, self.ONE, self.OTHER)]
        for low, high in itertools.product(bags, bags):
            expected = all(low.count(who) <= high.count(who) for who in low)
            self.check(expected, (NO, (), low), (NO, (), high))
            self.check(expected, (NO, (*self.ONE, "none"), low), (NO, (*self.ONE, "none"), high))

    def test_stands(self):
        self.check(False, (NO, (), ()), (ROW, (), ()))
        self.check(False, (NO, (), ()), (("no", "row"), (), (self.ONE,)))

    def test_other_heroes(self):
        heroes = [(*self.ONE, "none"), (*self.ONE, "both"), (*self.OTHER, "none"), (*fresh("pa"), "none")]
        for one, other in itertools.product(heroes, heroes):
            self.check(one == other, (NO, one, ()), (NO, other, (self.ONE, self.OTHER)))
            self.check(False, (NO, one, ()), (NO, (), (self.ONE, self.ONE, self.OTHER)))

    def test_without_a_hero_within_one_with_a_hero(self):
        high = (NO, (*self.ONE, "both"), (self.ONE, self.OTHER))
        for others, expected in (((), True), ((self.ONE,), True), ((self.ONE, self.ONE), True),
                                 ((self.ONE, self.ONE, self.OTHER), True), ((self.ONE,) * 3, False),
                                 ((self.OTHER, self.OTHER), False)):
            self.check(expected, (NO, (), others), high)

    def test_a_fresh_hero_is_not_added(self):
        self.check(True, (NO, (), ()), (NO, (*fresh("pa"), "none"), ()))
        self.check(True, (NO, (), (self.ONE,)), (NO, (*fresh("pa"), "none"), (self.ONE,)))
        self.check(False, (NO, (), (self.ONE,)), (NO, (*fresh("pa"), "none"), ()))

    def test_marks_count(self):
        marked = ("pa", 1, True, "here")
        self.check(False, (NO, (), (self.ONE,)), (NO, (), (marked,)))
        self.check(False, (NO, (), (marked,)), (NO, (), (self.ONE,)))

    def test_values_that_are_no_cases(self):
        case = (NO, (), ())
        for value in (*JUNK, [NO, (), ()], (NO, ()), (NO, (), (), ()), (NO, (), ("pa",)), (NO, ("pa",), ()), (NO, [], ()),
                      (NO, (), []), (NO, self.ONE, ()), (NO, (*self.ONE, "none", "none"), ()), (NO, (), (self.ONE[:3],)),
                      (NO, (), ((*self.ONE, "none"),)), (NO, (), (self.ONE, list(self.ONE)))):
            for pair in ((value, case), (case, value), (value, None)):
                with self.assertRaises(BadCase) as caught:
                    is_within(*pair)
                self.assertIs(caught.exception.value, value)

    def test_reference(self):
        for seed in range(20):
            chance = random.Random(seed)
            world = chance_world(chance)
            schemes = chance_schemes(chance, world)
            some = list(itertools.islice(plain_cases(world, schemes, 2), 4000))
            some = chance.sample(some, min(len(some), 60))
            for one, other in itertools.product(some, some):
                self.check(plain_within(one, other), one, other)


class Led(CasesCase):
    def led(self, case):
        before = repr(case)
        found = led(self.world, self.schemes, case)
        self.assertEqual(repr(case), before)
        self.assertEqual(list(found), sorted(found))
        self.assertEqual(len(found), len({event for event, _, _ in found}))
        return {event: (word, behind) for event, word, behind in found}

    def check_led(self, expected, case):
        self.assertEqual(repr(sorted(self.led(case).items())), repr(sorted(expected.items())), case)

    def test_fresh_ones_and_begins(self):
        self.check_led({
            ("begin", "pa"): ("", (NO, (*fresh("pa"), "none"), ())),
            ("begin", "pb"): ("", (NO, (*fresh("pb"), "none"), ())),
            ("step", fresh("pa")): ("", (NO, (), (("pa", 1, False, "here"),))),
            ("step", fresh("pb")): ("", (NO, (), (("pb", 1, False, "here"),))),
        }, (NO, (), ()))
        self.check_led({
            ("begin", "pa"): ("", (ROW, (*fresh("pa"), "row"), ())),
            ("begin", "pb"): ("", (ROW, (*fresh("pb"), "row"), ())),
            ("step", fresh("pa")): ("", (ROW, (), (("pa", 1, False, "here"),))),
            ("step", fresh("pb")): ("", (ROW, (), ())),
        }, (ROW, (), ()))

    def test_no_begin_beside_a_hero(self):
        words = [event for event in self.led((NO, (*fresh("pa"), "none"), ())) if event[0] == "begin"]
        self.assertEqual(words, [])

    def test_others(self):
        self.schemes = (PA,)
        one = ("pa", 1, False, "here")
        self.check_led({
            ("begin", "pa"): ("", (NO, (*fresh("pa"), "none"), (one, one))),
            ("step", fresh("pa")): ("", (NO, (), (one, one, one))),
            ("step", one): ("", (ROW, (), (one,))),
        }, (NO, (), (one, one)))
        self.check_led({
            ("begin", "pa"): ("", (ROW, (*fresh("pa"), "row"), (one,))),
            ("step", fresh("pa")): ("", (ROW, (), (one, one))),
            ("step", one): ("", (ROW, (), ())),
        }, (ROW, (), (one,)))

    def test_the_hero(self):
        self.schemes = (PA,)
        one = ("pa", 1, False, "here")
        self.check_led({
            ("step", ()): ("", (ROW, (), (one,))),
            ("step", fresh("pa")): ("", (NO, (*one, "none"), (one, one))),
            ("step", one): ("", (ROW, (*one, "both"), ())),
        }, (NO, (*one, "none"), (one,)))

    def test_wrong_by_never(self):
        one = ("pa", 1, False, "here")
        found = self.led((("no", "row"), (*one, "row"), (one,)))
        self.assertEqual(found[("step", ())], ("never", ()))
        self.assertEqual(found[("step", one)], ("never", ()))
        self.assertEqual({word for word, _ in self.led((("row", "row"), (), ())).values()}, {"never"})

    def test_from_a_broken_stand_to_one_that_is_not(self):
        self.schemes = (drop("da", "a"), PA)
        found = self.led((("row", "row"), (*fresh("da"), "row"), ()))
        self.assertEqual(found[("step", ())], ("answer", ()))
        self.assertEqual(found[("step", fresh("da"))], ("", (("no", "row"), (*fresh("da"), "row"), ())))
        self.assertEqual(found[("step", fresh("pa"))], ("never", ()))

    def test_wrong_by_moment(self):
        self.schemes = (scheme("m", "move", do("a", "ra=no", "ra=row", 0, 1), do("a", "", "ra=no", 0, 0)), PA)
        self.assertEqual(self.led((NO, (*fresh("m"), "none"), ()))[("step", ())], ("moment", ()))
        # What another one does wrong is found with it as the hero.
        self.assertEqual(self.led((NO, (), ()))[("step", fresh("m"))], ("", (ROW, (), ())))
        self.assertEqual(self.led((ROW, (), (("m", 1, False, "here"),)))[("step", ("m", 1, False, "here"))], ("", (NO, (), ())))

    def test_a_second_moment(self):
        self.schemes = (scheme("p", "put", do("a", "ra=no", "ra=row", 0, 1), do("a", "", "", 0, 0)),)
        self.assertEqual(self.led((NO, (*fresh("p"), "both"), ()))[("step", ())], ("", (ROW, (*fresh("p"), "made"), ())))
        self.assertEqual(self.led((NO, (*fresh("p"), "made"), ()))[("step", ())], ("moment", ()))
        self.assertEqual(self.led((ROW, (*fresh("p"), "made"), ()))[("step", ())],
                         ("", (ROW, ("p", 1, False, "here", "made"), ())))

    def test_wrong_by_answer(self):
        answers = {"put": ("done", "refused", "again"), "drop": ("done", "none", "again"),
                   "look": ("there", "none", "again"), "move": ("done", "again")}
        right = {"none": ("none", "again"), "row": ("refused", "there", "again"),
                 "both": ("none", "refused", "there", "again"), "made": ("done",)}
        for sort, seen in itertools.product(answers, SEENS):
            for answer in answers[sort]:
                rows = (do("a", "", "", 1, 1), do("a", "", "ra=no", 2, 2), do("a", "", "", 3, 3), say(answer))
                self.schemes = (scheme("p", sort, *rows),)
                case = (ROW if seen == "row" else NO, ("p", 2, False, "here", seen), ())
                if seen == "made" and sort in ("look", "move"):
                    self.check(False, case)
                    continue
                good = sort == "move" or answer in right[seen]
                expected = ("", (case[0], (), ())) if good else ("answer", ())
                self.assertEqual(self.led(case)[("step", ())], expected, (sort, seen, answer))

    def test_seen_behind(self):
        self.schemes = (scheme("p", "look", do("a", "", "", 1, 1), do("b", "", "", 1, 1)), PA, drop("da", "a"))
        who = ("p", 1, False, "here")
        for stand, seen, event, behind in ((NO, "none", ("step", ("pa", 1, False, "here")), (ROW, "both")),
                                           (NO, "both", ("step", ("pa", 1, False, "here")), (ROW, "both")),
                                           (ROW, "row", ("step", fresh("da")), (NO, "both")),
                                           (ROW, "both", ("step", fresh("da")), (NO, "both")),
                                           (NO, "none", ("step", fresh("da")), (NO, "none")),
                                           (ROW, "row", ("step", fresh("pa")), (ROW, "row")),
                                           (NO, "none", ("step", ()), (NO, "none")), (ROW, "row", ("step", ()), (ROW, "row")),
                                           (NO, "both", ("step", ()), (NO, "both"))):
            others = (event[1],) if event[1] == ("pa", 1, False, "here") else ()
            word, case = self.led((stand, (*who, seen), others))[event]
            self.assertEqual((word, case[0], case[1]), ("", behind[0], (*who, behind[1])), (stand, seen, event))

    def test_stays(self):
        self.schemes = (scheme("p", "put", ask("a", "ra=no", "ra=row", 1, 1), do("a", "", "", 1, 1)),)
        self.check_led({
            ("begin", "p"): ("", (NO, (*fresh("p"), "none"), ())),
            ("stay", fresh("p")): ("", (ROW, (), ())),
            ("step", fresh("p")): ("", (ROW, (), (("p", 1, False, "here"),))),
        }, (NO, (), ()))
        found = self.led((NO, (*fresh("p"), "none"), ()))
        self.assertEqual(found[("stay", ())], ("", (ROW, (*fresh("p"), "made"), ())))
        self.assertNotIn(("stay", ()), self.led((ROW, (*fresh("p"), "made"), ())))
        self.assertNotIn(("stay", fresh("p")), self.led((ROW, (), ())))

    def test_receipts(self):
        self.schemes = (scheme("p", "put", ask("a", "ra=no", "ra=row", 1, 2, "kept"), say("done"), say("refused")),)
        then, other = ("p", 0, False, "then"), ("p", 0, False, "other")
        found = self.led((NO, (*fresh("p"), "none"), (other, then)))
        self.assertEqual(found[("stay", ())], ("", (ROW, (*then, "made"), (other, then))))
        self.assertEqual(found[("stay", fresh("p"))], ("", (ROW, (*fresh("p"), "both"), (other, then, then))))
        self.assertEqual(found[("step", then)], ("", (NO, (*fresh("p"), "none"), (other,))))
        self.assertEqual(found[("step", other)], ("", (NO, (*fresh("p"), "none"), (then,))))
        self.assertEqual(set(found), {("stay", ()), ("step", ()), ("stay", fresh("p")), ("step", fresh("p")),
                                      ("step", then), ("step", other)})
        self.assertEqual(self.led((ROW, (*then, "made"), ()))[("step", ())], ("", (ROW, (), ())))
        self.assertEqual(self.led((ROW, (*then, "row"), ()))[("step", ())], ("answer", ()))
        self.assertEqual(self.led((ROW, (*other, "both"), ()))[("step", ())], ("", (ROW, (), ())))
        self.assertEqual(self.led((ROW, (*fresh("p"), "row"), ()))[("stay", ())], ("", (ROW, (*other, "row"), ())))

    def test_leaving_and_letters(self):
        self.schemes = (scheme("p", "put", ask("a", "ra=no", "ra=row", 1, 2, "late"), say("done"), say("again")),)
        letter = ("p", 0, False, "letter")
        found = self.led((NO, (*fresh("p"), "none"), (letter,)))
        self.assertEqual(found[("leave", ())], ("", (NO, (), (letter, letter))))
        self.assertEqual(found[("leave", fresh("p"))], ("", (NO, (*fresh("p"), "none"), (letter, letter))))
        self.assertEqual(found[("come", letter)], ("moment", ()))
        found = self.led((ROW, (*fresh("p"), "made"), (letter,)))
        self.assertEqual(found[("come", letter)], ("", (ROW, (*fresh("p"), "made"), ())))
        self.assertEqual(found[("leave", ())], ("answer", ()))
        self.assertEqual(self.led((("no", "row"), (), (letter,)))[("come", letter)], ("never", ()))

    def test_lapses(self):
        self.world = two_houses(lapses=(("a", "ra=row", "ra=no"), ("a", "", "ra=row"), ("b", "", "rb=no")))
        self.schemes = (PA,)
        found = self.led((ROW, (), ()))
        self.assertEqual([(event, found[event]) for event in sorted(found) if event[0] == "lapse"],
                         [(("lapse", 0), ("moment", ())), (("lapse", 1), ("", (ROW, (), ()))),
                          (("lapse", 2), ("", (ROW, (), ())))])
        found = self.led((("no", "row"), (*fresh("pa"), "row"), ()))
        self.assertNotIn(("lapse", 0), found)
        self.assertEqual((found[("lapse", 1)], found[("lapse", 2)]), (("never", ()), ("moment", ())))
        found = self.led((("row", "row"), (*fresh("pa"), "row"), ()))
        self.assertEqual([found[("lapse", number)] for number in range(3)],
                         [("", (("no", "row"), (*fresh("pa"), "row"), ())), ("never", ()), ("", (ROW, (*fresh("pa"), "row"), ()))])

    def test_marks(self):
        self.world = claims((("a", "", "ra=no"), ("a", "", "ca=shut")))
        self.schemes = (scheme("p", "move", do("a", "", "", 1, 0, "mark"), ask("a", "", "ca=shut", 2, 0, "late same"),
                               do("b", "", "", 2, 0), watch="ra"),)
        stand = ("no", "no", "open")
        marked, letter = ("p", 1, True, "here"), ("p", 1, True, "letter")
        found = self.led((stand, (*marked, "none"), (marked, letter)))
        self.assertEqual(found[("lapse", 0)],
                         ("", (stand, ("p", 1, False, "here", "none"), (("p", 1, False, "here"), ("p", 1, False, "letter")))))
        self.assertEqual(found[("lapse", 1)], ("", (("no", "no", "shut"), (*marked, "none"), (marked, letter))))
        self.assertEqual(found[("come", letter)], ("", (("no", "no", "shut"), (*marked, "none"), (marked,))))
        self.assertEqual(found[("step", ())], ("", (("no", "no", "shut"), ("p", 2, True, "here", "none"), (marked, letter))))
        self.assertEqual(found[("leave", ())],
                         ("", (stand, ("p", 0, True, "here", "none"), (marked, letter, letter))))
        self.assertEqual(found[("leave", marked)],
                         ("", (stand, (*marked, "none"), (("p", 0, True, "here"), letter, letter))))
        found = self.led((stand, (), (("p", 1, False, "here"), ("p", 1, False, "letter"))))
        self.assertEqual(found[("step", ("p", 1, False, "here"))], ("", (stand, (), (("p", 1, False, "letter"),))))
        self.assertEqual(found[("come", ("p", 1, False, "letter"))], ("", (stand, (), (("p", 1, False, "here"),))))

    def test_those_that_become_fresh_are_left_out(self):
        self.world = claims((("a", "", "ra=no"),))
        self.schemes = (scheme("p", "move", do("a", "", "", 1, 1, "mark"), do("b", "", "", 0, 0), watch="ra"),)
        stand, marked = ("no", "no", "open"), ("p", 0, True, "here")
        found = self.led((stand, (), (marked, ("p", 1, False, "here"))))
        self.assertEqual(found[("lapse", 0)], ("", (stand, (), (("p", 1, False, "here"),))))
        self.assertEqual(found[("step", ("p", 1, False, "here"))], ("", (stand, (), (marked,))))
        # A hero stays one.
        found = self.led((stand, (*marked, "none"), ()))
        self.assertEqual(found[("lapse", 0)], ("", (stand, (*fresh("p"), "none"), ())))

    def test_a_world_without_rows_at_hand(self):
        world = World(("a",), (("s", "a", ("no", "row")),), (pattern("s=row"),), (), ())
        look = scheme("l", "look", do("a", "s=row", "", 1, 1), say("none"))
        self.assertEqual(led(world, (look,), (("no",), (), ())), (
            (("begin", "l"), "", (("no",), ("l", 0, False, "here", "none"), ())),
            (("step", ("l", 0, False, "here")), "", (("no",), (), ()))))


class Reference(unittest.TestCase):
    """The same as the plain writing of the document."""

    def check(self, world, schemes, chance, seed, many=40):
        possible, made = plain_possible(world, schemes)
        some = list(itertools.islice(plain_cases(world, schemes, 2), 6000))
        for case in chance.sample(some, min(len(some), many)):
            self.assertIs(is_case(world, schemes, case), True, (seed, case))
            found = led(world, schemes, case)
            self.assertEqual(repr(found), repr(plain_led(world, schemes, case)), (seed, case))
            for _, word, behind in found:
                self.assertIs(is_case(world, schemes, behind), word == "", (seed, case, behind))
        for who in itertools.product([one[0] for one in schemes], range(5), (False, True), ("here", "then", "other", "letter")):
            for stand, seen in itertools.product(world.stands[:2], SEENS):
                row = world.has_row(stand)
                expected = who in possible and who[3] != "letter" and seen != ("none" if row else "row") and (
                    seen != "made" or who in made)
                self.assertIs(is_case(world, schemes, (stand, (*who, seen), ())), expected, (seed, who, seen))

    def test_by_chance(self):
        for seed in range(60):
            chance = random.Random(seed)
            world = chance_world(chance)
            self.check(world, chance_schemes(chance, world), chance, seed)

    def test_known_schemes(self):
        for number, (world, schemes) in enumerate(bases()):
            self.check(world, schemes, random.Random(number), number, 100)
            for one in schemes:
                self.check(world, (one,), random.Random(number), number)

    def test_equal_calls(self):
        case = (NO, (), (("pa", 1, True, "here"),))
        schemes = (marking_put("pa", "a", "b"),)
        self.assertEqual(led(plain(), schemes, case), led(plain(), schemes, case))
