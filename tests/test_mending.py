"""Mending: offers, the schemes that are chosen from them, and the cheapest good sets of options."""

import itertools
import random
import unittest

from tests.chance import claim_world, line_schemes
from tests.making import (ask, bases, claiming_put, claims, do, drop, looking_put, marking_put, plain, say, scheme)
from tests.samples import JUNK, changed, spoiled
from unlikekeys import mending
from unlikekeys.barring import barred, barred_stands
from unlikekeys.errors import BadFree, BadOffer, BadOptions, BadPrices
from unlikekeys.judging import judged
from unlikekeys.mending import chosen, mended, shows_mended
from unlikekeys.schemes import is_schemes
from unlikekeys.tables import shows_comes, shows_never, shows_right, shows_wrong

PA = looking_put("pa", "a", "b")


def may(option, row):
    return ("may", option, row)


def with_may(one, **options):
    """The scheme with rows that may be left out: r1=2 gives row 1 the option 2."""
    name, sort, watch, rows = one
    numbers = {int(word[1:]): option for word, option in options.items()}
    return (name, sort, watch, tuple(may(numbers[at], row) if at in numbers else row for at, row in enumerate(rows)))


def sets_of(prices):
    """All (price, options), as the document orders them."""
    options = [option for option, _ in prices]
    sets = [one for many in range(len(options) + 1) for one in itertools.combinations(options, many)]
    return sorted((sum(dict(prices)[option] for option in one), one) for one in sets)


GUARDED = scheme("p", "put",
                 do("b", "", "", 1, 1),
                 do("a", "ra=no", "", 2, 5, "mark"),
                 do("a", "ra=no", "", 3, 5, "mark"),
                 do("a", "", "ra=row", 4, 6, "same"),
                 say("done"), say("refused"), say("again"), watch="ra")
# Each of two marks makes the put right and free; without any it is right, and says "again" for ever.
TWO_MARKS = (with_may(GUARDED, r1=1, r2=2),)
# Both touches are needed.
TWO_TOUCHES = (with_may(marking_put("pa", "a", "b"), r1=1), with_may(marking_put("pb", "b", "a"), r1=3))


class MendingCase(unittest.TestCase):
    def setUp(self):
        self.world = plain()

    def refuse(self, error, value, call, *arguments, **named):
        before = repr((arguments, named))
        with self.assertRaises(error) as caught:
            call(*arguments, **named)
        self.assertIs(type(caught.exception), error)
        self.assertIs(caught.exception.value, value)
        self.assertEqual(repr((arguments, named)), before)


class Offers(MendingCase):
    def accept(self, *offer):
        for options in ((), tuple(sorted({row[1] for one in offer for row in one[3] if row[0] == "may"}))):
            self.assertIs(is_schemes(self.world, chosen(self.world, offer, options)), True)

    def refuse_offer(self, value):
        self.refuse(BadOffer, value, chosen, self.world, value, ())
        self.refuse(BadOffer, value, mended, self.world, value, ())
        self.refuse(BadOffer, value, shows_mended, self.world, value, (), None)

    def test_schemes_are_offers(self):
        for self.world, schemes in bases():
            self.accept(*schemes)
            self.assertEqual(chosen(self.world, schemes, ()), schemes)

    def test_options(self):
        for option in range(1, 5):
            self.accept(with_may(PA, r1=option))
        for option in (0, 5, -1, 99, True, False, None, "1", (1,), [1], {}, 10 ** 17):
            self.refuse_offer((with_may(PA, r1=option),))

    def test_an_option_at_several_rows_and_of_several_schemes(self):
        self.accept(with_may(GUARDED, r1=2, r2=2, r3=4))
        self.accept(with_may(PA, r1=1), with_may(looking_put("pb", "b", "a"), r1=1), with_may(GUARDED, r1=1, r2=3))

    def test_row_0(self):
        self.refuse_offer((with_may(PA, r0=1),))
        self.refuse_offer((with_may(PA, r0=1, r1=1),))

    def test_only_steps(self):
        self.refuse_offer((with_may(PA, r2=1),))
        self.refuse_offer((changed(PA, 3, changed(PA[3], 1, may(1, may(2, PA[3][1])))),))
        self.accept(with_may(changed(PA, 3, changed(PA[3], 1, ask("a", "", "ra=row", 2, 3))), r1=1))

    def test_shapes(self):
        row = PA[3][1]
        for value in (("may", 1), ("may", 1, row, row), ("may", 1, ()), ("may", 1, row[:6]), ["may", 1, row],
                      ("may", 1, list(row)), ("might", 1, row), (), ("may",), ("may", row, 1), ("may", 1, None)):
            self.refuse_offer((changed(PA, 3, changed(PA[3], 1, value)),))
        for value in (*JUNK, PA, [PA], with_may(PA, r1=1), (with_may(PA, r1=1),) * 2):
            self.refuse_offer(value)

    def test_schemes_around(self):
        three = tuple(with_may(changed(PA, 0, name), r1=1) for name in ("x", "y", "z"))
        self.accept(*three)
        self.refuse_offer((*three, with_may(PA, r1=1)))
        self.refuse_offer(())
        name, sort, watch, rows = with_may(PA, r1=1)
        self.refuse_offer(((name, sort, watch, list(rows)),))
        self.refuse_offer(((name, sort, watch, rows, ()),))
        self.refuse_offer(((name, sort, watch),))
        self.refuse_offer(([name, sort, watch, rows],))

    def test_spoiled(self):
        offer = (with_may(PA, r1=1),)
        row = PA[3][1]
        # An empty watch, needs or flags is none the less right; so is another number of a row.
        for place, value in itertools.product(range(7), (*JUNK, [], {}, 4, -1)):
            other = changed(row, place, value)
            if not is_schemes(self.world, (changed(PA, 3, changed(PA[3], 1, other)),)):
                self.refuse_offer((changed(PA, 3, changed(PA[3], 1, may(1, other))),))
        for value in spoiled(offer[0][:3]):
            if isinstance(value, tuple) and len(value) == 3 and value != PA[:3]:
                if not is_schemes(self.world, ((*value, PA[3]),)):
                    self.refuse_offer(((*value, offer[0][3]),))

    def test_rings(self):
        def ring(*thens, options=(1, 1, 1)):
            rows = [may(option, do("a", "", "", then, 4)) for option, then in zip(options, thens)]
            return (scheme("p", "look", do("a", "", "", 1, 4), *rows, say("again")),)

        for thens in ((1, 3, 4), (2, 1, 4), (2, 3, 1), (4, 3, 2), (2, 2, 4), (4, 4, 3), (3, 4, 1)):
            self.refuse_offer(ring(*thens))
            self.refuse_offer(ring(*thens, options=(1, 2, 3)))
        for thens in ((2, 3, 4), (4, 1, 2), (4, 4, 4), (3, 1, 4), (0, 0, 0), (2, 0, 1)):
            self.accept(*ring(*thens))

    def test_no_ring_by_other_or_through_rows_that_stay(self):
        rows = (do("a", "", "", 1, 1), may(1, do("a", "", "", 2, 1)), do("a", "", "", 1, 3), say("again"))
        self.accept(scheme("p", "look", *rows))

    def test_choices_that_would_not_be_schemes(self):
        """Without its option the scheme has one row only."""
        self.refuse_offer((scheme("p", "look", do("a", "", "", 0, 1), may(1, do("a", "", "", 0, 0))),))
        self.refuse_offer((PA, scheme("p", "look", do("a", "", "", 0, 1), may(1, do("a", "", "", 0, 0)),
                                      may(2, do("a", "", "", 0, 0)))))
        self.accept(scheme("p", "look", do("a", "", "", 0, 1), may(1, do("a", "", "", 0, 0)), do("a", "", "", 2, 1)))

    def test_thirteen_rows(self):
        rows = (do("a", "", "", 1, 1), *[do("a", "", "", 0, 0)] * 11)
        self.accept(scheme("p", "look", *rows[:11], may(1, rows[11])))
        self.refuse_offer((scheme("p", "look", *rows, may(1, rows[11])),))

    def test_interface(self):
        for name in ("chosen", "mended", "shows_mended"):
            self.assertEqual(getattr(mending, name).__module__, "unlikekeys.mending")


class Chosen(MendingCase):
    def test_all_and_none(self):
        offer = (with_may(PA, r1=1),)
        self.assertEqual(chosen(self.world, offer, (1,)), (PA,))
        self.assertEqual(chosen(self.world, offer, ()),
                         (scheme("pa", "put", do("b", "rb=no", "", 1, 2), say("done"), say("refused")),))

    def test_each_set(self):
        """Rows 1, 2 and 4 may be left out; row 4 goes back to row 0, and row 1 on to row 2."""
        rows = (do("a", "", "", 1, 2), do("a", "ra=no", "", 2, 4), ask("b", "", "", 3, 1), do("a", "ra=row", "", 5, 4),
                do("b", "rb=no", "", 0, 5), say("again"))
        offer = (with_may(scheme("p", "look", *rows), r1=1, r2=2, r4=4),)
        expected = {
            (): (do("a", "", "", 1, 1), do("a", "ra=row", "", 2, 0), say("again")),
            (1,): (do("a", "", "", 1, 2), do("a", "ra=no", "", 2, 0), do("a", "ra=row", "", 3, 0), say("again")),
            (2,): (do("a", "", "", 1, 1), ask("b", "", "", 2, 1), do("a", "ra=row", "", 3, 0), say("again")),
            (4,): (do("a", "", "", 1, 1), do("a", "ra=row", "", 3, 2), do("b", "rb=no", "", 0, 3), say("again")),
            (1, 2): (do("a", "", "", 1, 2), do("a", "ra=no", "", 2, 0), ask("b", "", "", 3, 1),
                     do("a", "ra=row", "", 4, 0), say("again")),
            (1, 4): (do("a", "", "", 1, 2), do("a", "ra=no", "", 2, 3), do("a", "ra=row", "", 4, 3),
                     do("b", "rb=no", "", 0, 4), say("again")),
            (2, 4): (do("a", "", "", 1, 1), ask("b", "", "", 2, 1), do("a", "ra=row", "", 4, 3),
                     do("b", "rb=no", "", 0, 4), say("again")),
            (1, 2, 4): rows,
        }
        for options, rows in expected.items():
            self.assertEqual(repr(chosen(self.world, offer, options)), repr((scheme("p", "look", *rows),)), options)

    def test_an_option_of_several_rows_and_schemes(self):
        offer = (with_may(GUARDED, r1=1, r2=1), with_may(PA, r1=1))
        self.assertEqual(chosen(self.world, offer, (1,)), (GUARDED, PA))
        self.assertEqual(chosen(self.world, offer, ()), (
            scheme("p", "put", do("b", "", "", 1, 1), do("a", "", "ra=row", 2, 4, "same"), say("done"), say("refused"),
                   say("again"), watch="ra"),
            scheme("pa", "put", do("b", "rb=no", "", 1, 2), say("done"), say("refused"))))

    def test_rows_left_out_behind_one_another(self):
        """Row 1 goes on to row 3, which goes on to row 2."""
        rows = (do("a", "", "", 1, 3), do("a", "", "", 3, 4), do("a", "", "", 5, 4), do("a", "", "", 2, 4), say("again"),
                say("none"))
        offer = (with_may(scheme("p", "look", *rows), r1=1, r2=1, r3=2),)
        self.assertEqual(chosen(self.world, offer, ()), (scheme("p", "look", do("a", "", "", 2, 2), say("again"), say("none")),))
        self.assertEqual(chosen(self.world, offer, (2,)),
                         (scheme("p", "look", do("a", "", "", 1, 1), do("a", "", "", 3, 2), say("again"), say("none")),))

    def test_by_chance(self):
        """Whoever comes to a row that is left out is where its then leads to, and the rows that stay are the same."""
        for seed in range(200):
            chance = random.Random(seed)
            world = claim_world(chance)
            schemes = line_schemes(chance, world, 2, 5)
            offer = tuple(with_may(one, **{f"r{at}": chance.randint(1, 4) for at, row in enumerate(one[3])
                                           if at and row[0] != "say" and chance.random() < 0.5}) for one in schemes)
            options = sorted({row[1] for one in offer for row in one[3] if row[0] == "may"})
            picked = tuple(option for option in options if chance.random() < 0.5)
            if any(self.has_ring(one[3]) for one in offer):
                self.refuse(BadOffer, offer, chosen, world, offer, picked)
                continue
            found = chosen(world, offer, picked)
            self.assertIs(is_schemes(world, found), True)
            for one, plain_one, left in zip(offer, schemes, found):
                self.check_scheme(one, plain_one, left, picked)

    @staticmethod
    def has_ring(rows):
        goes = {at: row[2][5] for at, row in enumerate(rows) if row[0] == "may"}
        for at in goes:
            seen = set()
            while at in goes and at not in seen:
                seen.add(at)
                at = goes[at]
            if at in goes:
                return True
        return False

    def check_scheme(self, offered, plain_one, left, picked):
        def end(at):
            while offered[3][at][0] == "may" and offered[3][at][1] not in picked:
                at = plain_one[3][at][5]
            return at

        stays = [at for at in range(len(plain_one[3])) if end(at) == at]
        self.assertEqual(left[:3], plain_one[:3])
        self.assertEqual(len(left[3]), len(stays))
        for at, row in zip(stays, left[3]):
            old = plain_one[3][at]
            self.assertEqual(row[:5], old[:5])
            if row[0] != "say":
                self.assertEqual([stays[row[5]], stays[row[6]]], [end(old[5]), end(old[6])])

    def test_bad_options(self):
        offer = (with_may(GUARDED, r1=1, r2=3),)
        for options in ((), (1,), (3,), (1, 3)):
            chosen(self.world, offer, options)
        for value in (*JUNK, (2,), (4,), (0,), (1, 2), (3, 1), (1, 1), [1], (True,), (True, 3), ("1",), ((1,),), 1, {1: 3}):
            if value != ():
                self.refuse(BadOptions, value, chosen, self.world, offer, value)
        self.refuse(BadOptions, (1,), chosen, self.world, (PA,), (1,))

    def test_the_offer_comes_first(self):
        self.refuse(BadOffer, None, chosen, self.world, None, None)

    def test_by_name(self):
        self.assertEqual(chosen(options=(), offer=(PA,), world=self.world), (PA,))


class Mended(MendingCase):
    def check(self, offer, prices, free, price, options, reasons):
        """reasons: for each bad set in its sequence (options, "wrong" or the name that is barred)."""
        before = repr((offer, prices, free))
        found = mended(self.world, offer, prices, free=free)
        self.assertEqual(repr((offer, prices, free)), before)
        self.assertEqual(repr(mended(self.world, offer, prices, free=free)), repr(found))
        self.assertEqual(repr(found[:2]), repr((price, options)))
        self.assertEqual([(one, paper[0] if paper[0] == "wrong" else paper[1]) for one, paper in found[4]], reasons)
        for one, paper in found[4]:
            self.check_paper(chosen(self.world, offer, one), paper, free)
        if price is None:
            self.assertEqual(found[2:4], (None, None))
        else:
            schemes = chosen(self.world, offer, options)
            self.assertEqual(("right", found[2]), judged(self.world, schemes))
            self.assertEqual(found[3], tuple((name, barred(self.world, schemes, name)[1]) for name in free))
            for name, table in found[3]:
                self.assertIs(shows_never(self.world, schemes, barred_stands(self.world, schemes, name), table), True)
        self.assertIs(shows_mended(self.world, offer, prices, found, free=free), True)
        return found

    def check_paper(self, schemes, paper, free):
        if paper[0] == "wrong":
            self.assertEqual(len(paper), 3)
            self.assertIs(shows_wrong(self.world, schemes, *paper[1:]), True)
        else:
            word, name, run, layers = paper
            self.assertEqual((word, judged(self.world, schemes)[0]), ("barred", "right"))
            self.assertIs(shows_comes(self.world, schemes, barred_stands(self.world, schemes, name), run, layers), True)
            for other in free[:free.index(name)]:
                self.assertEqual(barred(self.world, schemes, other)[0], "never")

    def test_no_options(self):
        self.check((PA,), (), (), 0, (), [])
        self.check((PA,), (), ("pa",), 0, (), [])
        self.check((PA, looking_put("pb", "b", "a")), (), (), None, None, [((), "wrong")])

    def test_both_are_needed(self):
        self.check(TWO_TOUCHES, ((1, 3), (3, 4)), (), 7, (1, 3), [((), "wrong"), ((1,), "wrong"), ((3,), "wrong")])
        self.check(TWO_TOUCHES, ((1, 4), (3, 3)), ("pa", "pb"), 7, (1, 3), [((), "wrong"), ((3,), "wrong"), ((1,), "wrong")])

    def test_without_free_nothing_is_needed(self):
        self.check(TWO_MARKS, ((1, 1), (2, 1)), (), 0, (), [])

    def test_prices_alike(self):
        self.check(TWO_MARKS, ((1, 5), (2, 5)), ("p",), 5, (1,), [((), "p")])
        self.check(TWO_MARKS, ((1, 5), (2, 4)), ("p",), 4, (2,), [((), "p")])
        self.check(TWO_MARKS, ((1, 99), (2, 99)), ("p",), 99, (1,), [((), "p")])

    def test_two_options_or_one(self):
        """Options 1 and 3 together do what option 4 does alone; of the same price the lesser tuple counts."""
        def twice(name, at, other, option):
            touch = do(other, f"r{other}=no", f"r{other}=no", 3, 6)
            return scheme(name, "put", do(at, f"r{at}=no", "", 1, 6, "mark"), may(option, changed(touch, 5, 2)), may(4, touch),
                          do(at, f"r{at}=no", f"r{at}=row", 4, 5, "same"), say("done"), say("again"), say("refused"),
                          watch=f"r{at}")

        offer = (twice("pa", "a", "b", 1), twice("pb", "b", "a", 3))
        self.check(offer, ((1, 2), (3, 3), (4, 5)), (), 5, (1, 3), [((), "wrong"), ((1,), "wrong"), ((3,), "wrong")])
        self.check(offer, ((1, 2), (3, 3), (4, 4)), (), 4, (4,), [((), "wrong"), ((1,), "wrong"), ((3,), "wrong")])
        self.check(offer, ((1, 2), (3, 3), (4, 2)), (), 2, (4,), [((), "wrong"), ((1,), "wrong")])
        self.check(offer, ((1, 2), (3, 3), (4, 6)), ("pa",), 5, (1, 3), [((), "wrong"), ((1,), "wrong"), ((3,), "wrong")])

    def test_none_good(self):
        found = self.check((with_may(PA, r1=1), looking_put("pb", "b", "a")), ((1, 5),), (), None, None,
                           [((), "wrong"), ((1,), "wrong")])
        self.assertEqual(found[:4], (None,) * 4)

    def test_the_first_of_free_that_is_barred(self):
        self.world = claims(())
        schemes = (claiming_put("pa", "a", "b"), with_may(drop("d", "a"), ), looking_put("x", "a", "b"))
        self.check((schemes[0],), (), ("pa",), None, None, [((), "pa")])
        free = scheme("m", "move", do("a", "", "", 1, 1), say("done"))
        found = self.check((schemes[0], free), (), ("m", "pa"), None, None, [((), "pa")])
        self.assertEqual(found[4][0][1][:2], ("barred", "pa"))
        self.check((schemes[0], free), (), ("m",), 0, (), [])

    def test_a_way_to_free_a_claim(self):
        """A move that takes a claim back makes the put free, but then it is not right any more."""
        self.world = claims(())
        freeing = scheme("m", "move", do("b", "", "", 1, 1), may(1, do("a", "", "ca=open", 2, 2)), say("done"))
        puts = (claiming_put("pa", "a", "b"), claiming_put("pb", "b", "a"))
        self.check((*puts, freeing), ((1, 7),), ("pa",), None, None, [((), "pa"), ((1,), "wrong")])
        self.check((puts[0], freeing), ((1, 7),), ("m", "pa"), 7, (1,), [((), "pa")])

    def test_all_sets_in_their_sequence(self):
        offer = tuple(with_may(one, r1=1, r2=2) for one in (marking_put("pa", "a", "b"), marking_put("pb", "b", "a")))
        found = self.check(offer, ((1, 2), (2, 2)), ("pa", "pb"), 4, (1, 2), [((), "wrong"), ((1,), "wrong"), ((2,), "wrong")])
        self.assertEqual(len(found[3]), 2)
        prices = ((1, 3), (2, 1), (3, 2), (4, 3))
        rows = (do("a", "", "", 1, 1), *[may(option, do("a", "", "", option + 1, option + 1)) for option in range(1, 5)],
                say("there"))
        self.check((scheme("l", "look", *rows),), prices, (), None, None,
                   [(one, "wrong") for _, one in sets_of(prices)])

    def test_by_chance(self):
        """The first good one of all sets, by what judged and barred tell of each."""
        good = 0
        for seed in range(60):
            chance = random.Random(seed)
            self.world, schemes = chance.choice(bases())
            schemes = schemes[:chance.randint(1, 2)]
            offer = tuple(with_may(one, **{f"r{at}": chance.randint(1, 3) for at, row in enumerate(one[3])
                                           if at and row[0] != "say" and chance.random() < 0.7}) for one in schemes)
            options = sorted({row[1] for one in offer for row in one[3] if row[0] == "may"})
            prices = tuple((option, chance.randint(1, 3)) for option in options)
            free = tuple(sorted(one[0] for one in schemes if chance.random() < 0.4))
            reasons, best = [], (None, None)
            for price, one in sets_of(prices):
                made = chosen(self.world, offer, one)
                bad = [name for name in free if barred(self.world, made, name)[0] == "run"]
                bad = ["wrong"] if judged(self.world, made)[0] == "wrong" else bad
                if not bad:
                    best = (price, one)
                    break
                reasons.append((one, bad[0]))
            self.check(offer, prices, free, *best, reasons)
            good += best != (None, None) and bool(reasons)
        self.assertGreater(good, 10)


class ShowsMended(MendingCase):
    PRICES = ((1, 3), (3, 4))

    def setUp(self):
        self.world = plain()
        self.offer = TWO_TOUCHES
        self.free = ("pa", "pb")
        self.found = mended(self.world, self.offer, self.PRICES, free=self.free)

    def shows(self, expected, value, offer=None, prices=None, free=None):
        before = repr(value)
        found = shows_mended(self.world, offer or self.offer, self.PRICES if prices is None else prices, value,
                             free=self.free if free is None else free)
        self.assertIs(found, expected, value)
        self.assertEqual(repr(value), before)

    def otherwise(self, place, value):
        self.shows(False, changed(self.found, place, value))

    def test_what_is_returned(self):
        self.shows(True, self.found)

    def test_any_value(self):
        for value in (*JUNK, list(self.found), self.found[:4], (*self.found, ()), (None,) * 5, (None,) * 4 + ((),)):
            self.shows(False, value)
        for place in range(5):
            for value in (*JUNK, list(self.found[2])):
                if value != self.found[place]:
                    self.otherwise(place, value)

    def test_price_and_options(self):
        for price in (6, 8, 0, None, "7", True, (7,)):
            self.otherwise(0, price)
        for options in ((), (1,), (3,), (1, 2), (3, 1), [1, 3], (True, 3), None):
            self.otherwise(1, options)

    def test_a_price_that_is_a_bool(self):
        prices = ((1, 1), (2, 2))
        found = mended(self.world, TWO_MARKS, prices, free=("p",))
        self.shows(True, found, TWO_MARKS, prices, ("p",))
        self.shows(False, changed(found, 0, True), TWO_MARKS, prices, ("p",))
        self.shows(False, changed(found, 1, (True,)), TWO_MARKS, prices, ("p",))

    def test_table(self):
        table = self.found[2]
        for place in range(len(table)):
            self.otherwise(2, table[:place] + table[place + 1:])
        self.otherwise(2, list(table))
        self.otherwise(2, ())
        # All cases with both words "row" in any stand but the first: no table here, for rows do stand at a.
        self.otherwise(2, tuple((stand, (), ()) for stand in self.world.stands[1:]))

    def test_other_tables(self):
        """Nothing comes to a row at b if only pa puts."""
        offer, free = (with_may(PA, r1=1),), ("pa",)
        found = mended(self.world, offer, ((1, 5),), free=free)
        self.shows(True, found, offer, ((1, 5),), free)
        bigger = ((("no", "row"), (), ()), (("row", "row"), (), ()))
        self.shows(True, changed(found, 2, bigger), offer, ((1, 5),), free)
        self.shows(True, changed(found, 3, (("pa", bigger),)), offer, ((1, 5),), free)
        self.shows(False, changed(found, 3, (("pa", bigger[1:]),)), offer, ((1, 5),), free)
        self.shows(False, changed(found, 3, (("pb", ()),)), offer, ((1, 5),), free)

    def test_nevers(self):
        nevers = self.found[3]
        self.assertEqual([name for name, _ in nevers], ["pa", "pb"])
        for value in ((), nevers[:1], nevers[::-1], (*nevers, nevers[1]), list(nevers), (nevers[0], nevers[0]),
                      (list(nevers[0]), nevers[1]), (nevers[0], (nevers[1][0],)), (nevers[0], (*nevers[1], ())), (("pa", None), nevers[1]), None,
                      (("pa", ((("no", "no"), (), ()),)), nevers[1])):
            self.otherwise(3, value)

    def test_papers(self):
        papers = self.found[4]
        self.assertEqual([one for one, _ in papers], [(), (1,), (3,)])
        for place in range(3):
            self.otherwise(4, papers[:place] + papers[place + 1:])
            one, paper = papers[place]
            for other in ((one, paper[:2]), (one, (*paper, ())), (one, list(paper)), [one, paper], (one, None), (one,),
                          (list(one), paper), ((9,), paper), (one, ("right", *paper[1:])),
                          (one, ("wrong", (), ())), (one, ("wrong", paper[1][:-1], paper[2])),
                          (one, ("wrong", paper[1], paper[2][:-1])), (one, ("wrong", paper[1], list(paper[2]))),
                          (one, paper, ()), (one, ("barred", "pa", paper[1], paper[2])),
                          (one, ("barred", "pa", (), ())), (one, ("wrong",)), (one, ("wrong", *paper[1:], (), ()))):
                self.otherwise(4, changed(papers, place, other))
        self.otherwise(4, papers[::-1])
        self.otherwise(4, (*papers, ((1, 3), papers[0][1])))
        self.otherwise(4, (*papers, papers[0], papers[1]))

    def test_other_runs(self):
        papers = self.found[4]
        one, (word, run, layers) = papers[0]
        more = (("begin", "pb"), *[(event[0], event[1] + 1) if event[0] == "step" else event for event in run])
        self.shows(True, changed(self.found, 4, changed(papers, 0, (one, (word, more, layers)))))

    def test_barred_papers(self):
        prices, free = ((1, 5), (2, 5)), ("p",)
        found = mended(self.world, TWO_MARKS, prices, free=free)
        self.assertEqual(found[4], (((), ("barred", "p", (), ())),))
        self.shows(True, found, TWO_MARKS, prices, free)
        for paper in (("barred", "p", (), ((),)), ("barred", "q", (), ()), ("barred", None, (), ()), ("barred", ["p"], (), ()),
                      ("barred", "p", (("begin", "p"),), ()), ("barred", "p", ()), ("wrong", (), ()), ("wrong", "p", (), ()),
                      ("barred", (), ())):
            self.shows(False, changed(found, 4, (((), paper),)), TWO_MARKS, prices, free)
        # As good and as cheap, but a greater tuple; cheaper, but barred; right and free, but not the cheapest.
        good = mended(self.world, TWO_MARKS, ((1, 6), (2, 5)), free=free)
        self.shows(False, good, TWO_MARKS, prices, free)
        self.shows(False, (*good[:4], (*good[4], ((1,), ("barred", "p", (), ())))), TWO_MARKS, prices, free)
        self.shows(False, found, TWO_MARKS, prices, ())
        self.shows(False, mended(self.world, TWO_MARKS, prices), TWO_MARKS, prices, free)

    def test_the_first_name_counts(self):
        """Both are barred; the paper tells of the first one."""
        schemes = (scheme("p", "look", do("a", "", "", 1, 1), say("again")), scheme("q", "look", do("a", "", "", 1, 1), say("again")))
        found = mended(self.world, schemes, (), free=("p", "q"))
        self.assertEqual(found, (None, None, None, None, (((), ("barred", "p", (), ())),)))
        self.shows(True, found, schemes, (), ("p", "q"))
        other = changed(found, 4, (((), ("barred", "q", (), ())),))
        self.shows(False, other, schemes, (), ("p", "q"))
        self.shows(True, other, schemes, (), ("q",))

    def test_barred_but_wrong(self):
        """Schemes that are wrong have a paper of a wrong run, though a name is barred, too."""
        wrong = scheme("p", "look", do("a", "", "", 1, 1), may(1, do("a", "", "ra=row", 2, 2)), say("again"))
        prices = ((1, 1),)
        found = mended(self.world, (wrong,), prices, free=("p",))
        self.assertEqual([paper[0] for _, paper in found[4]], ["barred", "wrong"])
        self.shows(True, found, (wrong,), prices, ("p",))
        self.shows(False, changed(found, 4, (found[4][0], ((1,), ("barred", "p", (), ())))), (wrong,), prices, ("p",))

    def test_none_good(self):
        offer = (with_may(PA, r1=1), looking_put("pb", "b", "a"))
        found = mended(self.world, offer, ((1, 5),))
        self.shows(True, found, offer, ((1, 5),), ())
        for place, value in itertools.product(range(4), (0, (), False, 5)):
            self.shows(False, changed(found, place, value), offer, ((1, 5),), ())
        self.shows(False, changed(found, 4, found[4][:1]), offer, ((1, 5),), ())
        self.shows(False, changed(found, 4, (*found[4], found[4][1])), offer, ((1, 5),), ())


class Errors(MendingCase):
    def test_bad_prices(self):
        offer = TWO_TOUCHES
        good = ((1, 1), (3, 99))
        mended(self.world, offer, good)
        for value in (*JUNK, (), ((1, 1),), ((3, 1),), ((3, 99), (1, 1)), ((1, 1), (2, 5), (3, 99)), ((1, 1), (3, 0)),
                      ((1, 1), (3, 100)), ((1, 1), (3, -1)), ((True, 1), (3, 99)), ((1, True), (3, 99)), ((1, 1), (1, 1)),
                      ((1, 1), (3, "99")), ((1, 1), (3, None)), ((1, 1), [3, 99]), [(1, 1), (3, 99)], ((1, 1), (3,)),
                      ((1, 1), (3, 99, 1)), ((1, 1), (4, 99)), {1: 1, 3: 99}, ((1, 1), (3, 99), (3, 99)), ((1, 1), ("3", 99))):
            self.refuse(BadPrices, value, mended, self.world, offer, value)
            self.refuse(BadPrices, value, mended, self.world, offer, value, free=None)
            self.refuse(BadPrices, value, shows_mended, self.world, offer, value, None, free=None)
        self.refuse(BadPrices, ((1, 1),), mended, self.world, (PA,), ((1, 1),))

    def test_bad_free(self):
        offer, prices = TWO_TOUCHES, ((1, 1), (3, 1))
        for free in ((), ("pa",), ("pb",), ("pa", "pb")):
            mended(self.world, offer, prices, free=free)
        for value in (*JUNK, ("pb", "pa"), ("pa", "pa"), ["pa"], ("pc",), ("pa", "pc"), "pa", (None,), (("pa",),), {"pa": 1}):
            if value != ():
                self.refuse(BadFree, value, mended, self.world, offer, prices, free=value)
                self.refuse(BadFree, value, shows_mended, self.world, offer, prices, None, free=value)

    def test_sequence(self):
        self.refuse(BadOffer, None, mended, self.world, None, None, free=None)
        self.refuse(BadOffer, None, shows_mended, self.world, None, None, None, free=None)

    def test_by_name(self):
        found = mended(free=("pa",), prices=(), offer=(PA,), world=self.world)
        self.assertIs(shows_mended(free=("pa",), value=found, prices=(), offer=(PA,), world=self.world), True)
        with self.assertRaises(TypeError):
            mended(self.world, (PA,), (), ("pa",))
        with self.assertRaises(TypeError):
            shows_mended(self.world, (PA,), (), found, ("pa",))

    def test_free_is_empty_if_it_is_not_told(self):
        self.assertEqual(mended(self.world, (PA,), ()), mended(self.world, (PA,), (), free=()))
        self.assertIs(shows_right(self.world, (PA,), mended(self.world, (PA,), ())[2]), True)
