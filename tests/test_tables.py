"""Tables, runs and layers: whether they show what they tell, whoever made them."""

import random
import unittest

from tests.chance import claim_world, line_schemes
from tests.making import (bases, claiming_put, claims, do, drop, fresh, honest_look, looking_put, marking_put, pattern, plain,
                          say, scheme, two_houses)
from tests.plain import plain_cases, plain_is_table, plain_possible
from tests.samples import JUNK, changed, spoiled
from unlikekeys import tables
from unlikekeys.errors import BadSchemes, BadStands
from unlikekeys.judging import comes, judged
from unlikekeys.runs import played
from unlikekeys.tables import shows_comes, shows_never, shows_right, shows_wrong
from unlikekeys.worlds import World

PA = looking_put("pa", "a", "b")
PB = looking_put("pb", "b", "a")
NN, NR, RN, RR = ("no", "no"), ("no", "row"), ("row", "no"), ("row", "row")
PA1, PB1 = ("pa", 1, False, "here"), ("pb", 1, False, "here")


def one_less(values):
    """All tuples with one member left out."""
    for place in range(len(values)):
        yield values[:place] + values[place + 1:]


def with_one_more(values, one):
    return tuple(sorted((*values, one)))


def other_kinds(value):
    """The same with an integer for a bool, a bool for an integer, or a list for a tuple, in one place."""
    if isinstance(value, bool) or value in (0, 1):
        yield int(value) if isinstance(value, bool) else bool(value)
    elif isinstance(value, tuple):
        yield list(value)
        for place, member in enumerate(value):
            for other in other_kinds(member):
                yield changed(value, place, other)


class TablesCase(unittest.TestCase):
    def setUp(self):
        self.world = plain()
        self.schemes = (PA,)

    def right(self, expected, table):
        before = repr(table)
        self.assertIs(shows_right(self.world, self.schemes, table), expected, table)
        self.assertEqual(repr(table), before)

    def never(self, expected, stands, table):
        before = repr(table)
        self.assertIs(shows_never(self.world, self.schemes, stands, table), expected, table)
        self.assertEqual(repr(table), before)

    def wrong(self, expected, run, layers):
        before = repr((run, layers))
        self.assertIs(shows_wrong(self.world, self.schemes, run, layers), expected, (run, layers))
        self.assertEqual(repr((run, layers)), before)

    def come(self, expected, stands, run, layers):
        before = repr((run, layers))
        self.assertIs(shows_comes(self.world, self.schemes, stands, run, layers), expected, (run, layers))
        self.assertEqual(repr((run, layers)), before)


class Right(TablesCase):
    TABLE = ((NR, (), (PA1,)), (RR, (), ()))

    def test_what_is_returned(self):
        for self.world, self.schemes in bases():
            found = judged(self.world, self.schemes)
            if found[0] == "right":
                self.right(True, found[1])

    def test_any_value(self):
        for value in (*JUNK, "table", list(self.TABLE), self.TABLE[::-1], (*self.TABLE, self.TABLE[1]), ((),), (NN,),
                      self.TABLE[0], None):
            self.right(False, value)

    def test_spoiled(self):
        for value in spoiled(self.TABLE):
            if value != self.TABLE and value != ((NR, (), ()), self.TABLE[1]):
                self.right(False, value)

    def test_other_kinds(self):
        for value in other_kinds(self.TABLE):
            self.right(False, value)

    def test_a_member_less(self):
        for self.world, self.schemes in bases():
            found = judged(self.world, self.schemes)
            if found[0] == "right":
                for table in one_less(found[1]):
                    self.right(False, table)

    def test_the_empty_table(self):
        self.right(False, ())
        self.schemes = (scheme("l", "look", do("a", "", "", 1, 1), say("again")),)
        self.world = World(("a",), (("r", "a", ("no", "row")),), (pattern("r=row"),), (), ())
        self.right(True, ())

    def test_with_the_first_case_or_one_within_it(self):
        self.right(False, with_one_more(self.TABLE, (NN, (), ())))
        self.right(False, ((NN, (), ()), (NR, (), ()), (RN, (), ()), (RR, (), ())))

    def test_members_within_one_another(self):
        self.right(False, with_one_more(self.TABLE, (NR, (), (PA1, PA1))))
        self.right(False, with_one_more(self.TABLE, (RR, (*PA1, "row"), ())))

    def test_other_tables(self):
        """Nothing ever comes to (no, row), so all cases there may be taken in."""
        self.right(True, ((NR, (), ()), (RR, (), ())))
        # Behind a first look there is one who looked, so the case with two such is led to from the one with one.
        self.right(False, with_one_more(self.TABLE, (NN, (), (PA1, PA1))))
        self.right(False, with_one_more(self.TABLE, (RN, (), ())))

    def test_a_table_with_heroes_that_none_can_be(self):
        """Nothing comes to (no, row), so no look can have seen a row there and none before."""
        self.schemes = (PA, scheme("l", "look", do("b", "", "", 1, 1), do("b", "", "", 2, 2), say("again")))
        first, second = (NR, (*fresh("l"), "both"), ()), (NR, ("l", 1, False, "here", "both"), ())
        self.right(True, self.TABLE)
        self.right(True, tuple(sorted((*self.TABLE, first, second))))
        self.right(True, with_one_more(self.TABLE, first))
        self.right(False, with_one_more(self.TABLE, second))
        self.right(False, with_one_more(self.TABLE, (NR, (*fresh("l"), "row"), ())))
        self.right(False, with_one_more(self.TABLE, (NR, (*fresh("l"), "none"), ())))
        self.right(False, with_one_more(self.TABLE, (RN, (*fresh("l"), "both"), ())))

    def test_not_for_wrong_schemes(self):
        self.schemes = (PA, PB)
        self.right(False, self.TABLE)
        self.right(False, ())
        found = judged(self.world, self.schemes)
        self.right(False, tuple(sorted(case for layer in found[2] for case in layer)))
        self.right(False, ((NR, (), ()), (RN, (), ()), (RR, (), ())))

    def test_bad_schemes(self):
        for value in (*JUNK, PA, [PA]):
            for call, rest in ((shows_right, (None,)), (shows_wrong, (None, None)), (shows_never, (None, None)),
                               (shows_comes, (None, None, None))):
                with self.assertRaises(BadSchemes) as caught:
                    call(self.world, value, *rest)
                self.assertIs(caught.exception.value, value)

    def test_interface(self):
        for name in ("shows_right", "shows_wrong", "shows_comes", "shows_never"):
            self.assertEqual(getattr(tables, name).__module__, "unlikekeys.tables")
        named = {"schemes": (PA,), "world": self.world}
        self.assertIs(shows_right(table=self.TABLE, **named), True)
        self.assertIs(shows_wrong(layers=(), run=(), **named), False)
        self.assertIs(shows_never(table=((NR, (), ()),), stands=(NR,), **named), True)
        self.assertIs(shows_comes(layers=(), run=(), stands=(NN,), **named), True)


class Wrong(TablesCase):
    def setUp(self):
        self.world = plain()
        self.schemes = (PA, PB)
        _, self.run_, self.layers = judged(self.world, self.schemes)

    def test_what_is_returned(self):
        for self.world, self.schemes in bases():
            found = judged(self.world, self.schemes)
            if found[0] == "wrong":
                self.wrong(True, *found[1:])

    def test_other_runs_as_short(self):
        begins = (("begin", "pa"), ("begin", "pb"))
        for steps in ((0, 1, 0, 1), (1, 0, 0, 1), (0, 1, 1, 0), (1, 0, 1, 0)):
            self.wrong(True, begins + tuple(("step", doer) for doer in steps), self.layers)
        more = (*begins, ("begin", "pa"), ("begin", "pb"))
        self.wrong(True, more + tuple(("step", doer) for doer in (2, 1, 2, 1)), self.layers)
        self.wrong(True, (("begin", "pb"), ("step", 0), ("begin", "pa"), ("step", 1), ("begin", "pa"), ("step", 0),
                          ("step", 1)), self.layers)

    def test_longer_runs(self):
        begins = (("begin", "pa"), ("begin", "pb"), ("begin", "pa"))
        run = begins + tuple(("step", doer) for doer in (2, 0, 1, 0, 1))
        self.assertEqual(played(self.world, self.schemes, run).wrong, (7, "never"))
        self.wrong(False, run, self.layers)
        self.wrong(False, run, (*self.layers, self.layers[-1]))
        self.wrong(False, run, (*self.layers, ()))
        self.wrong(False, run, (*self.layers, ((NN, (), ()),)))

    def test_the_wrong_event_is_the_last_one(self):
        self.wrong(False, (*self.run_, ("begin", "pa")), self.layers)
        self.wrong(False, (*self.run_, ("begin", "pa"), ("step", 2)), self.layers)
        self.wrong(False, self.run_[:-1], self.layers)
        self.wrong(False, (), self.layers)
        self.wrong(False, (), ())

    def test_an_event_otherwise(self):
        for place, event in enumerate(self.run_):
            for other in (("begin", "pc"), ("step", 5), ("stay", 0), ("lapse", 0), None, list(event), ()):
                self.wrong(False, changed(self.run_, place, other), self.layers)
        for run in one_less(self.run_):
            self.wrong(False, run, self.layers)

    def test_layers_otherwise(self):
        for layers in one_less(self.layers):
            self.wrong(False, self.run_, layers)
        self.wrong(False, self.run_, (*self.layers, ()))
        self.wrong(False, self.run_, self.layers[::-1])
        for place, layer in enumerate(self.layers):
            for other in one_less(layer):
                self.wrong(False, self.run_, changed(self.layers, place, other))
            for one in ((NN, (), (PA1, PA1)), (NN, (*PA1, "none"), ()), (NN, (), ()), (RN, (), ()), (RR, (), (PA1,)), None):
                if one not in layer:
                    more = with_one_more(layer, one) if one is not None else (*layer, one)
                    self.wrong(False, self.run_, changed(self.layers, place, more))
            if len(layer) > 1:
                self.wrong(False, self.run_, changed(self.layers, place, layer[::-1]))

    def test_any_values(self):
        for value in (*JUNK, [], list(self.run_), list(self.layers)):
            self.wrong(False, value, self.layers)
            self.wrong(False, self.run_, value)
            self.wrong(False, value, value)
        for value in spoiled(self.run_):
            if value != self.run_:
                self.wrong(False, value, self.layers)
        for value in spoiled(self.layers[1:2]):
            if value != self.layers[1:2]:
                self.wrong(False, self.run_, (self.layers[0], *value, self.layers[2]) if isinstance(value, tuple) else value)

    def test_other_kinds(self):
        for value in other_kinds(self.run_):
            self.wrong(False, value, self.layers)
        for value in other_kinds(self.layers):
            self.wrong(False, self.run_, value)

    def test_one_event(self):
        self.schemes = (scheme("p", "put", do("a", "", "ra=row", 1, 1), say("again")),)
        self.wrong(True, (("begin", "p"), ("step", 0)), ())
        self.wrong(False, (("begin", "p"), ("step", 0)), ((),))
        self.wrong(False, (("begin", "p"),), ())

    def test_right_schemes(self):
        self.schemes = (PA,)
        self.wrong(False, (("begin", "pa"), ("step", 0), ("step", 0)), ())
        self.wrong(False, (("begin", "pa"), ("step", 0), ("step", 0)), (judged(self.world, self.schemes)[1],))

    def test_returned_ones_with_one_thing_otherwise(self):
        for self.world, self.schemes in bases():
            found = judged(self.world, self.schemes)
            if found[0] == "wrong":
                _, run, layers = found
                self.wrong(False, run, layers[:-1])
                for place, layer in enumerate(layers):
                    self.wrong(False, run, changed(layers, place, layer[1:]))
                for other in one_less(run):
                    self.wrong(False, other, layers)


class Comes(TablesCase):
    def test_what_is_returned(self):
        for self.world, self.schemes in bases():
            for place, stand in enumerate(self.world.stands):
                for stands in ((stand,), self.world.stands[place:]):
                    found = comes(self.world, self.schemes, stands)
                    if found[0] == "never":
                        self.never(True, stands, found[1])
                        for table in one_less(found[1]):
                            self.never(False, stands, table)
                    else:
                        self.come(True, stands, *found[1:])
                        self.come(False, stands, found[1], (*found[2], ()))

    def test_the_first_stand(self):
        self.come(True, (NN,), (), ())
        self.come(False, (NN,), (("begin", "pa"),), ())
        self.come(False, (NN,), (), ((),))
        self.never(False, (NN,), ())
        self.never(False, (NN,), ((NN, (), ()),))

    def test_no_stands(self):
        self.come(False, (), (), ())
        self.come(False, (), (("begin", "pa"), ("step", 0)), ())
        self.never(True, (), ())
        self.never(True, (), ((NR, (), ()),))
        self.never(True, (), ((NR, (), (PA1, PA1)), (RR, (), (PA1,))))
        self.never(False, (), ((RR, (), ()),))
        self.never(False, (), ((RN, (), ()),))
        self.never(False, (), ((NN, (), ()),))

    def test_by_the_last_event_not_earlier(self):
        run, layers = (("begin", "pa"), ("step", 0), ("step", 0)), (((NN, (), (PA1,)), (RN, (), ())),)
        self.come(True, (RN,), run, layers)
        self.come(True, (RN,), (("begin", "pa"), *run), layers)
        self.come(False, (RN,), (*run, ("begin", "pa")), layers)
        self.come(False, (RN,), run[:-1], layers)
        self.come(False, (RN,), run, ())
        self.come(False, (RN,), run, (*layers, ((NN, (), ()),)))
        self.come(False, (NR,), run, layers)
        longer = (("begin", "pa"), ("begin", "pa"), ("step", 0), ("step", 1), ("step", 1))
        self.come(False, (RN,), longer, layers)
        self.come(False, (RN,), longer, (*layers, ((NN, (), ()),)))

    def test_layers_otherwise(self):
        self.schemes = (PA, PB)
        _, run, layers = comes(self.world, self.schemes, (RR,))
        self.come(True, (RR,), run, layers)
        for place, layer in enumerate(layers):
            for other in one_less(layer):
                self.come(False, (RR,), run, changed(layers, place, other))
            self.come(False, (RR,), run, changed(layers, place, with_one_more(layer, (NN, (*PA1, "none"), ()))))
            self.come(False, (RR,), run, changed(layers, place, list(layer)))
        for value in other_kinds(layers):
            self.come(False, (RR,), run, value)
        for value in other_kinds(run):
            self.come(False, (RR,), value, layers)
        for value in (*JUNK, list(run), list(layers)):
            self.come(False, (RR,), value, layers)
            self.come(False, (RR,), run, value)

    def test_wrong_events_lead_on(self):
        self.world = two_houses(("ca", "a", ("open", "shut")), lapses=(("a", "", "ra=row"), ("a", "ra=row", "ca=shut")))
        stands = (("row", "no", "shut"),)
        _, run, layers = comes(self.world, self.schemes, stands)
        self.come(True, stands, run, layers)
        self.assertEqual(run, (("lapse", 0), ("lapse", 1)))

    def test_never_with_heroes(self):
        table = comes(self.world, self.schemes, (RR,))[1]
        self.never(True, (RR,), table)
        self.never(False, (RR,), with_one_more(table, (RN, (*PA1, "row"), ())))
        self.never(False, (), ((NR, (*fresh("pa"), "row"), ()),))

    def test_never_any_value(self):
        table = ((NR, (), (PA1,)), (RR, (), ()))
        self.never(True, (RR,), table)
        self.never(False, (NR, RR), table)
        self.never(True, (NR, RR), ((NR, (), ()), (RR, (), ())))
        self.never(True, (RR,), ((NR, (), ()), (RR, (), ())))
        for value in (*JUNK, list(table), table[::-1], *other_kinds(table)):
            self.never(False, (RR,), value)
        for value in spoiled(table):
            if value not in (table, ((NR, (), ()), table[1])):
                self.never(False, (RR,), value)

    def test_bad_stands(self):
        for value in (*JUNK, [NN], NN, (RR, NN), (NN, NN), (("no",),)):
            if value != ():
                for call, rest in ((shows_never, (None,)), (shows_comes, (None, None))):
                    with self.assertRaises(BadStands) as caught:
                        call(self.world, self.schemes, value, *rest)
                    self.assertIs(caught.exception.value, value)


class Reference(TablesCase):
    """The same as the document's words, taken literally, for tables and for what is nearly one."""

    def tables_near(self, chance, table, pool):
        """Tables with a member less, one more, one that is smaller, one that is greater, or of other ones."""
        yield table
        for _ in range(4):
            one = chance.choice(pool)
            yield tuple(sorted({*table, one}))
            if table:
                old = chance.choice(table)
                rest = {member for member in table if member != old}
                yield tuple(sorted(rest))
                yield tuple(sorted({*rest, one}))
                yield tuple(sorted({*rest, (old[0], old[1], old[2][1:])}))
                yield tuple(sorted({*rest, (old[0], (), old[2])}))
        yield tuple(sorted({(stand, (), ()) for stand, _, _ in table}))
        yield tuple(sorted({(stand, (), ()) for stand in self.world.stands[1:]}))
        yield tuple(sorted({(stand, (), ()) for stand in self.world.stands if stand != self.world.first
                            and chance.random() < 0.7}))

    def check(self, chance, stands):
        found = judged(self.world, self.schemes) if stands is None else comes(self.world, self.schemes, stands)
        table = found[1] if len(found) == 2 else tuple(sorted({case for layer in found[2] for case in layer}))
        pool = list(plain_cases(self.world, self.schemes, 1, stands is None))
        told = []
        for value in self.tables_near(chance, table, pool):
            most = max([len(others) for _, _, others in value], default=0)
            if most > 1 or len(plain_possible(self.world, self.schemes)[0]) > 9:
                continue
            expected = plain_is_table(self.world, self.schemes, value, stands)
            if stands is None:
                self.right(expected, value)
            else:
                self.never(expected, stands, value)
            told.append(expected)
        return told

    def test_by_chance(self):
        told = []
        for seed in range(60):
            chance = random.Random(seed)
            self.world = claim_world(chance)
            self.schemes = line_schemes(chance, self.world, 2, 2)
            told += self.check(chance, None)
            told += self.check(chance, tuple(stand for stand in self.world.stands if chance.random() < 0.3))
        self.assertGreater(told.count(True), 60)
        self.assertGreater(told.count(False), 200)

    def test_known_schemes(self):
        for number, (self.world, self.schemes) in enumerate(bases()):
            chance = random.Random(number)
            if number < 3:
                self.check(chance, None)
            self.check(chance, tuple(stand for stand in self.world.stands if chance.random() < 0.4))
