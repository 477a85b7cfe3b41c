"""Barred keys: stands from which a scheme comes to no end that counts, and whether anything comes to them."""

import random
import unittest

from tests.chance import chance_schemes, chance_world, claim_world, line_schemes
from tests.making import (ask, bases, claiming_move, claiming_put, claims, do, drop, honest_look, looking_put, marking_put,
                          pattern, plain, say, scheme, two_houses)
from tests.plain import plain_barred, plain_shortest
from tests.samples import JUNK
from unlikekeys import barring
from unlikekeys.barring import barred, barred_stands
from unlikekeys.errors import BadSchemes, NoScheme
from unlikekeys.judging import comes
from unlikekeys.tables import shows_comes, shows_never
from unlikekeys.worlds import World

PA = looking_put("pa", "a", "b")
NN, NR, RN, RR = ("no", "no"), ("no", "row"), ("row", "no"), ("row", "row")


def shut_stands():
    return tuple((ra, rb, "shut") for ra in ("no", "row") for rb in ("no", "row"))


class BarringCase(unittest.TestCase):
    def check(self, world, schemes, name, stands):
        before = repr(schemes)
        stands = tuple(sorted(stands))
        self.assertEqual(repr(barred_stands(world, schemes, name)), repr(stands))
        found = barred(world, schemes, name)
        self.assertEqual(repr(found), repr(comes(world, schemes, stands)))
        self.assertEqual(repr(barred(world, schemes, name)), repr(found))
        if found[0] == "run":
            self.assertIs(shows_comes(world, schemes, stands, *found[1:]), True)
        else:
            self.assertIs(shows_never(world, schemes, stands, found[1]), True)
        self.assertEqual(repr(schemes), before)
        return found


class Stands(BarringCase):
    def test_never_barred(self):
        self.assertEqual(self.check(plain(), (PA,), "pa", ()), ("never", ()))
        for name in ("pa", "pb"):
            self.check(plain(), (marking_put("pa", "a", "b"), marking_put("pb", "b", "a")), name, ())

    def test_a_claim_that_is_not_given_back(self):
        for word, flags in (("do", ""), ("ask", "kept"), ("ask", "late")):
            schemes = (claiming_put("pa", "a", "b", word, flags),)
            found = self.check(claims(()), schemes, "pa", shut_stands())
            self.assertEqual((found[0], found[1][-1][0]), ("run", "step"))

    def test_a_claim_that_lapses(self):
        self.assertEqual(self.check(claims(), (claiming_put("pa", "a", "b"),), "pa", ()), ("never", ()))

    def test_a_claim_that_lapses_only_where_no_row_stands(self):
        world = claims((("a", "ca=shut ra=no", "ca=open"),))
        found = self.check(world, (claiming_put("pa", "a", "b"),), "pa", (("row", "no", "shut"), ("row", "row", "shut")))
        self.assertEqual(found[0], "run")

    def test_barred_only_where_nothing_comes_to(self):
        """The put never takes the claim, so nobody leaves it shut."""
        rows = (do("a", "ca=open ra=no", "ra=row", 1, 2), say("done"), say("again"))
        stands = (("no", "no", "shut"), ("no", "row", "shut"), ("row", "no", "open"), ("row", "no", "shut"),
                  ("row", "row", "open"), ("row", "row", "shut"))
        found = self.check(claims(()), (scheme("p", "put", *rows),), "p", stands)
        self.assertEqual(found[0], "run")
        rows = (do("a", "ca=open", "", 2, 1), say("again"), do("a", "ra=no", "ra=row", 3, 4), say("done"), say("refused"))
        found = self.check(claims(()), (scheme("p", "put", *rows),), "p", shut_stands())
        self.assertEqual(found[0], "never")
        self.assertNotEqual(found[1], ())

    def test_the_first_stand(self):
        found = self.check(plain(), (drop("d", "a"), PA), "d", (NN, NR))
        self.assertEqual(found, ("run", (), ()))

    def test_a_scheme_that_only_says_again(self):
        found = self.check(plain(), (scheme("l", "look", do("a", "", "", 1, 1), say("again")),), "l", (NN, NR, RN, RR))
        self.assertEqual(found, ("run", (), ()))

    def test_each_other_answer_counts(self):
        for sort, answers in (("put", ("done", "refused")), ("drop", ("done", "none")), ("look", ("there", "none")),
                              ("move", ("done",))):
            for answer in (*answers, "again"):
                one = scheme("p", sort, do("a", "ra=row", "", 1, 2), say(answer), say("again"))
                self.check(plain(), (one,), "p", (NN, NR, RN, RR) if answer == "again" else (NN, NR))

    def test_wrong_answers_and_broken_stands_count_as_well(self):
        one = scheme("p", "put", do("a", "ra=no", "ra=row", 1, 2), do("b", "rb=no", "rb=row", 3, 2), say("again"), say("done"))
        self.check(plain(), (one,), "p", (NR, RN, RR))

    def test_several_deeds_one_behind_the_other(self):
        """Each deed of the scheme itself goes one word on; only the third one ends so that it counts."""
        world = World(("a",), (("w", "a", ("one", "two", "three", "four")), ("r", "a", ("no", "row"))), (pattern("r=row"),), (), ())
        rows = (do("a", "w=one", "w=two", 3, 1), do("a", "w=two", "w=three", 3, 2), do("a", "w=three", "", 4, 3),
                say("again"), say("none"))
        self.check(world, (scheme("l", "look", *rows),), "l", (("four", "no"), ("four", "row")))

    def test_schemes_of_other_sorts_do_not_help(self):
        for sort, stands in (("move", ()), ("put", shut_stands()), ("drop", shut_stands()), ("look", shut_stands())):
            helper = scheme("h", sort, do("a", "ca=shut", "ca=open", 1, 1), say("again"))
            self.check(claims(()), (claiming_put("pa", "a", "b"), helper), "pa", stands)

    def test_moves_that_free(self):
        """A move frees the claim; a second one frees what bars the first one."""
        free = scheme("m", "move", do("a", "ca=shut ra=no", "ca=open", 1, 1), say("again"))
        stands = (("row", "no", "shut"), ("row", "row", "shut"))
        self.check(claims(()), (claiming_put("pa", "a", "b"), free), "pa", stands)
        clear = scheme("n", "move", do("a", "ra=row", "ra=no", 1, 1), say("done"))
        self.check(claims(()), (claiming_put("pa", "a", "b"), clear, free), "pa", ())

    def test_a_move_that_frees_and_never_ends(self):
        """Deeds are whole ones: behind a deed that goes round there is none."""
        free = scheme("m", "move", do("a", "", "ca=open", 1, 1), do("b", "", "", 1, 1))
        self.check(claims(()), (claiming_put("pa", "a", "b"), free), "pa", shut_stands())
        free = scheme("m", "move", do("a", "", "ca=open", 1, 1), do("b", "rb=no", "", 1, 2), say("again"))
        self.check(claims(()), (claiming_put("pa", "a", "b"), free), "pa", (("no", "no", "shut"), ("row", "no", "shut")))

    def test_deeds_that_go_round(self):
        one = scheme("l", "look", do("a", "ra=row", "", 2, 1), do("b", "rb=row", "", 2, 0), say("there"))
        self.check(plain(), (one,), "l", (NN,))
        self.check(plain(), (one, scheme("m", "move", do("a", "", "ra=row", 1, 1), say("done"))), "l", ())

    def test_a_move_by_itself(self):
        move = claiming_move("m")
        self.check(claims(()), (move,), "m", [stand for stand in claims(()).stands if stand != ("row", "no", "open")])
        # An end of another move does not count.
        other = scheme("n", "move", do("a", "", "", 1, 1), say("done"))
        self.check(plain(), (scheme("m", "move", do("a", "", "", 1, 1), say("again")), other), "m", (NN, NR, RN, RR))

    def test_no_stays(self):
        """Only an answer that is lost leaves the claim shut for the doer itself."""
        rows = (ask("a", "ca=open", "ca=shut", 1, 3), do("a", "", "ca=open", 2, 2), say("again"), say("done"))
        open_stands = [stand for stand in claims(()).stands if stand[2] == "open"]
        self.check(claims(()), (scheme("p", "move", *rows),), "p", open_stands)

    def test_no_letters(self):
        rows = (ask("a", "ca=open", "", 2, 1, "late"), say("done"), say("again"))
        open_stands = [stand for stand in claims(()).stands if stand[2] == "open"]
        self.check(claims(()), (scheme("p", "move", *rows),), "p", open_stands)

    def test_nobody_is_on_the_way(self):
        """A put of the same scheme that stopped amid its deed would free the claim; it is not there."""
        found = self.check(claims(()), (claiming_put("pa", "a", "b"), claiming_put("pb", "b", "a")), "pb", shut_stands())
        self.assertEqual(len([event for event in found[1] if event[0] != "begin"]), 1)


class Lapses(BarringCase):
    def test_between_deeds_and_amid_a_deed(self):
        """The scheme goes on only if the claim is open at its first row and shut at its second one."""
        rows = (do("a", "ca=open", "", 1, 3), do("a", "ca=shut", "", 2, 3), say("done"), say("again"))
        one = scheme("p", "move", *rows)
        self.check(claims((("a", "ca=open", "ca=shut"),)), (one,), "p", shut_stands())
        self.check(claims((("a", "ca=shut", "ca=open"),)), (one,), "p", claims(()).stands)
        self.check(claims((("a", "ca=open", "ca=shut"), ("a", "ca=shut", "ca=open"))), (one,), "p", ())

    def test_only_between_deeds(self):
        rows = (do("a", "ca=open", "", 1, 2), say("done"), say("again"))
        self.check(claims(), (scheme("p", "move", *rows),), "p", ())
        self.check(claims(()), (scheme("p", "move", *rows),), "p", shut_stands())

    def test_a_lapse_takes_the_mark(self):
        rows = (do("a", "", "", 1, 1, "mark"), do("a", "", "", 2, 3, "same"), say("again"), say("done"))
        one = scheme("p", "move", *rows, watch="ca")
        self.check(claims(()), (one,), "p", claims(()).stands)
        self.check(claims((("a", "ca=open", "ca=open"),)), (one,), "p", shut_stands())
        self.check(claims((("a", "", "ra=no"),)), (one,), "p", claims(()).stands)


class Marks(BarringCase):
    def test_of_ones_own(self):
        rows = (do("a", "", "", 1, 1, "mark"), do("a", "ca=open", "ra=no", 2, 2), do("a", "", "", 3, 4, "same"), say("again"),
                say("done"))
        open_stands = [stand for stand in claims(()).stands if stand[2] == "open"]
        self.check(claims(()), (scheme("p", "move", *rows, watch="ra"),), "p", shut_stands())
        self.check(claims(()), (scheme("p", "move", *rows, watch="ca"),), "p", claims(()).stands)
        rows = (*rows[:3], say("done"), say("again"))
        self.check(claims(()), (scheme("p", "move", *rows, watch="ra"),), "p", open_stands)

    def test_each_deed_begins_without(self):
        rows = (do("a", "", "", 2, 1, "same"), do("a", "", "", 3, 3, "mark"), say("done"), say("again"))
        self.check(plain(), (scheme("p", "move", *rows, watch="ra"),), "p", (NN, NR, RN, RR))


class Errors(unittest.TestCase):
    def test_no_scheme(self):
        for value in (*JUNK, "", "p", "paa", "pb", ("pa",), ["pa"], {"pa": 1}, PA, (PA,), 0, None):
            for call in (barred_stands, barred):
                with self.assertRaises(NoScheme) as caught:
                    call(plain(), (PA,), value)
                self.assertIs(caught.exception.value, value)

    def test_bad_schemes_come_first(self):
        for value in (*JUNK, PA, [PA]):
            for call in (barred_stands, barred):
                with self.assertRaises(BadSchemes) as caught:
                    call(plain(), value, None)
                self.assertIs(caught.exception.value, value)

    def test_interface(self):
        for name in ("barred_stands", "barred"):
            self.assertEqual(getattr(barring, name).__module__, "unlikekeys.barring")
        self.assertEqual(barred_stands(name="pa", schemes=(PA,), world=plain()), ())
        self.assertEqual(barred(name="pa", schemes=(PA,), world=plain()), ("never", ()))


class Reference(BarringCase):
    """The same as the plain writing of the document."""

    def test_known_schemes(self):
        for world, schemes in bases():
            for one in schemes:
                self.check(world, schemes, one[0], plain_barred(world, schemes, one[0]))

    def test_by_chance(self):
        sizes = []
        for seed in range(250):
            chance = random.Random(seed)
            world = claim_world(chance) if seed % 2 else chance_world(chance)
            schemes = line_schemes(chance, world, 3) if seed % 2 else chance_schemes(chance, world, 3)
            for one in schemes:
                stands = plain_barred(world, schemes, one[0])
                self.check(world, schemes, one[0], stands)
                sizes.append(len(stands) not in (0, len(world.stands)))
        self.assertGreater(sum(sizes), 40)

    def test_as_soon_as_a_plain_search(self):
        for world, schemes in bases():
            for one in schemes:
                found = barred(world, schemes, one[0])
                shortest = plain_shortest(world, schemes, 2, 4, barred_stands(world, schemes, one[0]))
                many = len([event for event in found[1] if event[0] != "begin"])
                if found[0] == "never":
                    self.assertIs(shortest, None)
                elif many <= 4 and len(found[1]) - many <= 2:
                    self.assertEqual(shortest, many)
