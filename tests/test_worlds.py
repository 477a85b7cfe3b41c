"""Worlds: what is one, and what each tells."""

import copy
import itertools
import unittest

from tests.samples import BEARS, HOUSES, JUNK, NEVER, PLAIN, RICH, SLOTS, changed, plain_world, rich_world, spoiled
from unlikekeys.errors import BadPattern, BadWorld, NoStand
from unlikekeys.worlds import World

ATTRIBUTES = ("houses", "slots", "bears", "never", "lapses")
ROW = ((("s", "row"),),)


def one_slot(name="s", house="a", words=("no", "row"), bears=ROW):
    return (("a",), ((name, house, words),), bears, (), ())


def slots_of(*counts):
    """Slots at house a with so many words each."""
    names = ("sa", "sb", "sc", "sd", "se", "sf", "sg")
    return tuple([(name, "a", ("wa", "wb", "wc", "wd")[:count]) for name, count in zip(names, counts)])


class WorldCase(unittest.TestCase):
    def accept(self, *parts):
        world = World(*parts)
        self.assertEqual(tuple([getattr(world, name) for name in ATTRIBUTES]), parts)

    def reject(self, *parts):
        before = repr(parts)
        with self.assertRaises(BadWorld) as caught:
            World(*parts)
        value = caught.exception.value
        self.assertIs(type(value), tuple)
        self.assertEqual([id(part) for part in value], [id(part) for part in parts])
        self.assertEqual(repr(parts), before)


class Making(WorldCase):
    def test_samples(self):
        self.accept(*PLAIN)
        self.accept(*RICH)

    def test_by_name(self):
        named = World(lapses=(), never=NEVER, bears=BEARS, slots=SLOTS, houses=HOUSES)
        self.assertEqual(named, plain_world())

    def test_the_value_is_in_the_order_of_the_parameters(self):
        with self.assertRaises(BadWorld) as caught:
            World(lapses=5, never=4, bears=3, slots=2, houses=1)
        self.assertEqual(caught.exception.value, (1, 2, 3, 4, 5))

    def test_spoiled(self):
        for parts in (PLAIN, RICH):
            for place, part in enumerate(parts):
                for other in spoiled(part):
                    self.reject(*changed(parts, place, other))

    def test_all_spoiled_at_once(self):
        for junk in JUNK:
            self.reject(junk, junk, junk, junk, junk)


class Houses(WorldCase):
    def with_houses(self, *houses):
        return (houses, *one_slot()[1:])

    def test_count(self):
        self.accept(*self.with_houses("a"))
        self.accept(*self.with_houses("a", "b", "c", "d"))
        self.reject(*self.with_houses())
        self.reject(*self.with_houses("a", "b", "c", "d", "e"))

    def test_ascending(self):
        self.accept(*self.with_houses("a", "aa", "b"))
        self.reject(*self.with_houses("b", "a"))
        self.reject(*self.with_houses("a", "b", "b"))
        self.reject(*self.with_houses("a", "a"))

    def test_names(self):
        self.accept(*self.with_houses("a", "abcdefgh"))
        self.accept(*self.with_houses("a", "z"))
        for name in ("", "abcdefghi", "B", "b1", "b-", "b ", " b", "b\n", "b\u00e9", "\u0431", "\u212b"):
            self.reject(*self.with_houses(*sorted(("a", name))))


class Slots(WorldCase):
    def test_count(self):
        bears = ((("sa", "wb"),),)
        self.accept(("a",), slots_of(2), bears, (), ())
        self.accept(("a",), slots_of(2, 2, 2, 2, 2), bears, (), ())
        self.reject(("a",), (), bears, (), ())
        self.reject(("a",), (), (), (), ())
        # Six slots have 64 stands at least, so these are too many, too.
        self.reject(("a",), slots_of(2, 2, 2, 2, 2, 2), bears, (), ())
        self.reject(("a",), slots_of(2, 2, 2, 2, 2, 2, 2), bears, (), ())

    def test_stands(self):
        bears = ((("sa", "wb"),),)
        for counts in ((2, 2, 2, 2, 2), (4, 4, 2), (4, 2, 4), (2, 4, 2, 2), (3, 3, 3), (3, 2, 4)):
            self.accept(("a",), slots_of(*counts), bears, (), ())
        for counts in ((4, 3, 3), (3, 3, 4), (2, 2, 3, 3), (4, 4, 3), (4, 4, 4), (3, 2, 2, 2, 2)):
            self.reject(("a",), slots_of(*counts), bears, (), ())

    def test_shape(self):
        self.reject(("a",), (("s", "a"),), ROW, (), ())
        self.reject(("a",), (("s", "a", ("no", "row"), ()),), ROW, (), ())
        self.reject(("a",), ("s", "a", ("no", "row")), ROW, (), ())

    def test_house(self):
        self.accept(("a", "b"), (("s", "b", ("no", "row")),), ROW, (), ())
        self.reject(("a", "b"), (("s", "c", ("no", "row")),), ROW, (), ())
        self.reject(("a", "b"), (("s", ("a", "b"), ("no", "row")),), ROW, (), ())
        self.reject(("ab",), (("s", "a", ("no", "row")),), ROW, (), ())

    def test_names(self):
        for name in ("s", "abcdefgh"):
            self.accept(*one_slot(name=name, bears=(((name, "row"),),)))
        for name in ("", "abcdefghi", "S", "s1", "s=", "s\n"):
            self.reject(*one_slot(name=name, bears=(((name, "row"),),)))

    def test_names_are_different(self):
        same = (("s", "a", ("no", "row")), ("s", "a", ("no", "row")))
        self.reject(("a",), same, ROW, (), ())
        self.reject(("a", "b"), changed(same, 1, ("s", "b", ("by", "go"))), ROW, (), ())
        self.accept(("a",), changed(same, 1, ("a", "a", ("no", "row"))), ROW, (), ())

    def test_slots_need_no_order(self):
        self.accept(("a",), (("t", "a", ("no", "row")), ("s", "a", ("no", "row"))), ROW, (), ())

    def test_word_count(self):
        bears = ((("s", "b"),),)
        self.accept(*one_slot(words=("a", "b"), bears=bears))
        self.accept(*one_slot(words=("a", "b", "c", "d"), bears=bears))
        for words in ((), ("b",), ("a", "b", "c", "d", "e")):
            self.reject(*one_slot(words=words, bears=bears))
        for words in (("a", "b"), ("a", "b", "c", "d")):
            self.accept(("a",), (("s", "a", ("no", "row")), ("t", "a", words)), ROW, (), ())
        for words in ((), ("a",), ("a", "b", "c", "d", "e")):
            self.reject(("a",), (("s", "a", ("no", "row")), ("t", "a", words)), ROW, (), ())

    def test_words(self):
        for word in ("b", "abcdefgh", "s", "no"):
            self.accept(*one_slot(words=("zero", word), bears=((("s", word),),)))
        for word in ("", "abcdefghi", "B", "b1", "b=", "b\n", "zero"):
            self.reject(*one_slot(words=("zero", word), bears=((("s", word),),)))

    def test_words_are_different(self):
        self.reject(*one_slot(words=("no", "no", "row")))
        self.reject(*one_slot(words=("no", "row", "row")))
        self.accept(*one_slot(words=("no", "row", "by")))


class Bears(WorldCase):
    def with_bears(self, *bears):
        return changed(PLAIN, 2, bears)

    def test_count(self):
        self.accept(*self.with_bears((("ra", "row"),)))
        self.accept(*self.with_bears((("ra", "no"), ("rb", "row")), (("ra", "row"),), (("ra", "row"), ("rb", "no")),
                                     (("ra", "row"), ("rb", "row")), (("rb", "row"),)))
        self.reject(*self.with_bears())

    def test_not_the_empty_pattern(self):
        self.reject(*self.with_bears(()))
        self.reject(*self.with_bears((), (("ra", "row"),)))

    def test_ascending(self):
        self.reject(*self.with_bears((("rb", "row"),), (("ra", "row"),)))
        self.reject(*self.with_bears((("ra", "row"),), (("ra", "row"),)))

    def test_patterns(self):
        self.reject(*self.with_bears((("rb", "row"), ("ra", "row"))))
        self.reject(*self.with_bears((("ra", "no"), ("ra", "row"))))
        self.reject(*self.with_bears((("ra", "row"), ("ra", "row"))))
        self.reject(*self.with_bears((("rc", "row"),)))
        self.reject(*self.with_bears((("ra", "full"),)))
        self.reject(*self.with_bears((("ra", "row", "row"),)))
        self.reject(*self.with_bears((("ra",),)))
        self.reject(*self.with_bears(("ra", "row")))

    def test_no_row_at_the_first_stand(self):
        self.reject(*self.with_bears((("ra", "no"),)))
        self.reject(*self.with_bears((("ra", "no"),), (("rb", "row"),)))
        self.reject(*self.with_bears((("ra", "no"), ("rb", "no")), (("ra", "row"),)))
        self.accept(*self.with_bears((("ra", "no"), ("rb", "row"))))


class Never(WorldCase):
    def with_never(self, *never):
        return changed(PLAIN, 3, never)

    def test_count(self):
        self.accept(*self.with_never())
        self.accept(*self.with_never((("ra", "no"), ("rb", "row")), (("ra", "row"),), (("rb", "row"),)))

    def test_not_the_empty_pattern(self):
        self.reject(*self.with_never(()))
        self.reject(*self.with_never((), (("ra", "row"),)))

    def test_ascending(self):
        self.reject(*self.with_never((("rb", "row"),), (("ra", "row"),)))
        self.reject(*self.with_never((("ra", "row"),), (("ra", "row"),)))

    def test_patterns(self):
        self.reject(*self.with_never((("rb", "row"), ("ra", "row"))))
        self.reject(*self.with_never((("ra", "no"), ("ra", "row"))))
        self.reject(*self.with_never((("rc", "row"),)))
        self.reject(*self.with_never((("ra", "full"),)))
        self.reject(*self.with_never(("ra", "row")))

    def test_first_stand_is_not_broken(self):
        self.reject(*self.with_never((("ra", "no"),)))
        self.reject(*self.with_never((("ra", "no"), ("rb", "no"))))
        self.reject(*self.with_never((("ra", "row"),), (("rb", "no"),)))
        self.accept(*self.with_never((("ra", "no"), ("rb", "row"))))


class Lapses(WorldCase):
    LAPSE = ("a", (("ra", "row"),), (("ra", "no"),))

    def with_lapses(self, *lapses):
        return changed(PLAIN, 4, lapses)

    def test_count(self):
        other = ("b", (("rb", "row"),), (("rb", "no"),))
        for lapses in ((self.LAPSE,), (other, self.LAPSE), (self.LAPSE, self.LAPSE), (other, self.LAPSE) * 2):
            self.accept(*self.with_lapses(*lapses))
        self.reject(*self.with_lapses(*(self.LAPSE,) * 5))
        self.reject(*self.with_lapses(*(other, self.LAPSE) * 3))

    def test_shape(self):
        self.reject(*self.with_lapses(self.LAPSE[:2]))
        self.reject(*self.with_lapses(self.LAPSE + ((),)))
        self.reject(*changed(PLAIN, 4, self.LAPSE))

    def test_house(self):
        for house in ("b", "c", "", None, ("a",), ["a"]):
            self.reject(*self.with_lapses(changed(self.LAPSE, 0, house)))
            self.reject(*self.with_lapses((house, (), ())))

    def test_needs(self):
        self.accept(*self.with_lapses(("a", (), (("ra", "no"),))))
        self.reject(*self.with_lapses(("a", (("rb", "row"),), (("ra", "no"),))))
        self.reject(*self.with_lapses(("a", (("ra", "row"), ("rb", "row")), (("ra", "no"),))))
        self.reject(*self.with_lapses(("a", (("ra", "full"),), (("ra", "no"),))))
        self.reject(*self.with_lapses(("a", (("ra", "no"), ("ra", "row")), (("ra", "no"),))))

    def test_makes(self):
        self.accept(*self.with_lapses(("a", (("ra", "no"),), (("ra", "no"),))))
        self.reject(*self.with_lapses(("a", (("ra", "row"),), ())))
        self.reject(*self.with_lapses(("a", (("ra", "row"),), (("rb", "no"),))))
        self.reject(*self.with_lapses(("a", (("ra", "row"),), (("ra", "no"), ("rb", "no")))))
        self.reject(*self.with_lapses(("a", (("ra", "row"),), (("ra", "full"),))))

    def test_several_slots_of_one_house(self):
        lapse = ("east", (("at", "row"), ("lock", "by")), (("at", "none"), ("lock", "open")))
        self.accept(*changed(RICH, 4, (lapse,)))
        self.reject(*changed(RICH, 4, (("east", lapse[1][::-1], lapse[2]),)))
        self.reject(*changed(RICH, 4, (("east", lapse[1], lapse[2][::-1]),)))
        self.reject(*changed(RICH, 4, (changed(lapse, 0, "south"),)))


def all_patterns(world):
    """All patterns, built from what each slot may have."""
    choices = [[(name, word) for word in ("", *words)] for name, _, words in sorted(world.slots)]
    return [tuple([pair for pair in pairs if pair[1]]) for pairs in itertools.product(*choices)]


def told(world, stand):
    """What each slot has at the stand."""
    return dict(zip([slot[0] for slot in world.slots], stand))


class Telling(unittest.TestCase):
    def setUp(self):
        self.worlds = (plain_world(), rich_world(), World(("a",), slots_of(4, 4, 2), ((("sb", "wd"),),), (), ()))

    def test_first(self):
        self.assertEqual(plain_world().first, ("no", "no"))
        self.assertEqual(rich_world().first, ("no", "open", "none"))

    def test_stands(self):
        for world in self.worlds:
            words = [slot[2] for slot in world.slots]
            self.assertIs(type(world.stands), tuple)
            self.assertEqual(list(world.stands), sorted(itertools.product(*words)))
        self.assertEqual(rich_world().stands[:3], (("full", "by", "none"), ("full", "by", "row"),
                                                   ("full", "open", "none")))

    def test_is_stand(self):
        world = rich_world()
        for stand in world.stands:
            self.assertIs(world.is_stand(stand), True)
            self.assertIs(world.is_stand(stand[:2]), False)
            self.assertIs(world.is_stand(stand + stand[:1]), False)
            self.assertIs(world.is_stand(list(stand)), False)
            self.assertIs(world.is_stand(stand[::-1]), False)
        self.assertIs(world.is_stand(("row", "open", "none")), False)
        self.assertIs(world.is_stand(value=world.first), True)
        for value in spoiled(world.first):
            self.assertIs(world.is_stand(value), False)
        self.assertIs(world.is_stand(()), False)

    def test_is_pattern(self):
        for world in self.worlds:
            for pattern in all_patterns(world):
                self.assertIs(world.is_pattern(pattern), True)
                self.assertIs(world.is_pattern(list(pattern)), False)
                self.assertIs(world.is_pattern(pattern[::-1]), len(pattern) < 2)
                for pair in pattern:
                    self.assertIs(world.is_pattern(pattern + (pair,)), False)
                for value in (spoiled(pattern) if len(pattern) == 2 else ()):
                    self.assertIs(world.is_pattern(value), False)

    def test_is_pattern_edges(self):
        world = rich_world()
        self.assertIs(world.is_pattern(value=()), True)
        for value in ((("lock", "full"),), (("key", "by"),), (("lock", "by"), ("lock", "open")), ("lock", "by"),
                      (("lock", "by", "by"),), (("lock",),), ((),), (("by", "lock"),)):
            self.assertIs(world.is_pattern(value), False)

    def test_holds(self):
        for world in self.worlds:
            for pattern, stand in itertools.product(all_patterns(world), world.stands):
                expected = set(pattern) <= set(told(world, stand).items())
                self.assertIs(world.holds(pattern, stand), expected)
        self.assertIs(plain_world().holds(stand=("no", "row"), pattern=(("rb", "row"),)), True)

    def test_made(self):
        for world in self.worlds:
            for pattern, stand in itertools.product(all_patterns(world), world.stands):
                behind = world.made(stand, pattern)
                self.assertIs(type(behind), tuple)
                self.assertEqual(told(world, behind), {**told(world, stand), **dict(pattern)})
        self.assertEqual(plain_world().made(pattern=(("rb", "row"),), stand=("row", "no")), ("row", "row"))

    def test_has_row_and_is_broken(self):
        for world in self.worlds:
            for stand in world.stands:
                pairs = set(told(world, stand).items())
                self.assertIs(world.has_row(stand), any(set(pattern) <= pairs for pattern in world.bears))
                self.assertIs(world.is_broken(stand), any(set(pattern) <= pairs for pattern in world.never))

    def test_has_row_and_is_broken_of_the_rich_world(self):
        world = rich_world()
        with_row = [stand for stand in world.stands if world.has_row(stand)]
        self.assertEqual(with_row, [stand for stand in world.stands if stand[0] != "no" or stand[1:] == ("shut", "row")])
        broken = [stand for stand in world.stands if world.is_broken(stand)]
        self.assertEqual(broken, [("full", "by", "row"), ("full", "open", "row"), ("full", "shut", "row"),
                                  ("half", "by", "none"), ("half", "by", "row")])
        self.assertIs(world.has_row(stand=world.first), False)
        self.assertIs(world.is_broken(stand=("half", "by", "row")), True)


class Asking(unittest.TestCase):
    """What the methods raise."""

    def setUp(self):
        self.world = rich_world()
        self.stands = [value for value in spoiled(self.world.first)] + [(), ("no", "open")]
        self.patterns = [value for value in spoiled((("at", "row"), ("row", "full")))] + [(("row", "none"),)]

    def check(self, error, value, deed, *arguments):
        before = repr(arguments)
        with self.assertRaises(error) as caught:
            deed(*arguments)
        self.assertIs(caught.exception.value, value)
        self.assertEqual(repr(arguments), before)

    def test_stands(self):
        for stand in self.stands:
            self.check(NoStand, stand, self.world.has_row, stand)
            self.check(NoStand, stand, self.world.is_broken, stand)
            self.check(NoStand, stand, self.world.holds, (), stand)
            self.check(NoStand, stand, self.world.made, stand, ())

    def test_patterns(self):
        for pattern in self.patterns:
            self.check(BadPattern, pattern, self.world.holds, pattern, self.world.first)
            self.check(BadPattern, pattern, self.world.made, self.world.first, pattern)

    def test_first_parameter_first(self):
        for stand, pattern in itertools.product(self.stands[::7], self.patterns[::7]):
            self.check(BadPattern, pattern, self.world.holds, pattern, stand)
            self.check(NoStand, stand, self.world.made, stand, pattern)

    def test_first_parameter_first_by_name(self):
        with self.assertRaises(BadPattern):
            self.world.holds(stand=None, pattern=None)
        with self.assertRaises(NoStand):
            self.world.made(pattern=None, stand=None)

    def test_nothing_changes(self):
        world = copy.deepcopy(self.world)
        for value in JUNK:
            for deed in (self.world.has_row, self.world.is_broken):
                with self.assertRaises(NoStand):
                    deed(value)
        self.assertEqual(vars(self.world), vars(world))
        self.assertEqual(self.world, rich_world())


class Equality(unittest.TestCase):
    def test_equal(self):
        self.assertIs(plain_world() == plain_world(), True)
        self.assertIs(plain_world() != plain_world(), False)
        self.assertIs(rich_world() == copy.deepcopy(rich_world()), True)
        self.assertIs(rich_world() == rich_world(), True)

    def test_each_part_counts(self):
        longer = (("a", "b", "c"), (*SLOTS, ("rc", "a", ("no", "row"))), BEARS[:1], (), (("a", (), (("ra", "no"),)),))
        for place, part in enumerate(longer):
            other = World(*changed(PLAIN, place, part))
            self.assertIs(plain_world() == other, False)
            self.assertIs(other == plain_world(), False)
            self.assertIs(plain_world() != other, True)

    def test_order_of_words_and_slots_counts(self):
        swapped = World(HOUSES, SLOTS[::-1], BEARS, NEVER, ())
        self.assertIs(plain_world() == swapped, False)

    def test_nothing_else_is_equal(self):
        class Likeness:
            pass

        likeness = Likeness()
        vars(likeness).update(vars(plain_world()))
        for other in (*JUNK, PLAIN, list(PLAIN), HOUSES, vars(plain_world()), likeness, World):
            self.assertIs(plain_world() == other, False)
            self.assertIs(other == plain_world(), False)
            self.assertIs(plain_world() != other, True)


class Again(unittest.TestCase):
    """Equal calls return equal results, and change nothing that was passed."""

    def test_equal_calls(self):
        one, other = rich_world(), rich_world()
        for stand in one.stands:
            for pattern in all_patterns(one):
                self.assertEqual(one.holds(pattern, stand), other.holds(pattern, stand))
                self.assertEqual(one.made(stand, pattern), one.made(stand, pattern))
        self.assertEqual(one, other)

    def test_arguments_stay(self):
        before = repr(RICH)
        world = World(*RICH)
        world.made(world.first, (("at", "row"),))
        self.assertEqual(repr(RICH), before)
        self.assertEqual(world.first, ("no", "open", "none"))


class Interface(unittest.TestCase):
    def test_methods_stand_in_the_class(self):
        for name in ("is_pattern", "is_stand", "holds", "made", "has_row", "is_broken", "__eq__"):
            self.assertIn(name, vars(World))
        self.assertEqual(World.__module__, "unlikekeys.worlds")

    def test_attributes_are_set_when_the_world_is_made(self):
        for name in (*ATTRIBUTES, "first", "stands"):
            self.assertIn(name, vars(plain_world()))
