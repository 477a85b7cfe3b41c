"""Towns: events over many keys, what a town tells of them, taking back, copies and trials."""

import random
import unittest

from tests.chance import chance_schemes, chance_world, claim_world, line_schemes
from tests.making import (ask, bases, claiming_put, claims, do, drop, honest_look, looking_put, marking_put, pattern, plain,
                          say, scheme, two_houses)
from tests.plain_towns import PlainTown, asked_of, told_to
from tests.samples import JUNK
from unlikekeys import errors, towns
from unlikekeys.errors import (BadSchemes, NoDoer, NoEvent, NoKey, NoLapse, NoLetter, NoScheme, NothingToUndo)
from unlikekeys.histories import is_history
from unlikekeys.runs import is_run, played
from unlikekeys.towns import Town
from unlikekeys.worlds import World

PA = looking_put("pa", "a", "b")
PB = looking_put("pb", "b", "a")
NO_KEYS = ("", "K", "key9", "abcdefghi", "k l", "k\n", "\u00e4", 0, 5, True, None, (), ("k",), ["k"], {"k": 1})
NO_NUMBERS = (-1, True, False, None, "0", "", (), (0,), [0], {0: 0}, 10 ** 17)


class TownCase(unittest.TestCase):
    def town(self, *told, world=None, schemes=(PA, PB)):
        town = Town(plain() if world is None else world, schemes)
        self.tell(town, *told)
        return town

    def tell(self, town, *told):
        """`step 0` and the like, told to the town."""
        for line in told:
            word, *rest = line.split(" ")
            getattr(town, word)(*[int(one) if one.isdigit() else one for one in rest])

    def refuse(self, town, call, error, kept):
        """The call raises this error, and nothing is changed."""
        before, twin = asked_of(town, town.known), town.copy()
        with self.assertRaises(errors.UnlikeError) as caught:
            call()
        self.assertIs(type(caught.exception), error)
        self.assertEqual(repr(list(vars(caught.exception).values())), repr(kept))
        self.assertEqual(asked_of(town, town.known), before)
        self.assertEqual(town, twin)

    def no_event(self, town, word, *rest, number=None):
        event = (word, rest[-1])
        self.refuse(town, lambda: getattr(town, word)(*rest), NoEvent, [event])


class Begins(TownCase):
    def test_a_new_town(self):
        town = self.town()
        self.assertEqual((town.time, town.known, town.wrongs, town.history()), (0, (), (), ()))
        self.assertEqual((town.stand("k"), town.has_row("k"), town.run("k")), (("no", "no"), False, ()))

    def test_bad_schemes(self):
        for value in (*JUNK, PA, (PA, PA), [PA]):
            with self.assertRaises(BadSchemes) as caught:
                Town(plain(), value)
            self.assertIs(caught.exception.value, value)

    def test_by_name(self):
        town = Town(schemes=(PA,), world=two_houses(lapses=(("a", "", "ra=no"),)))
        self.assertEqual(town.begin(key="k", scheme="pa"), 0)
        self.assertIs(town.step(doer=0), None)
        self.assertIs(town.lapse(number=0, key="k"), None)
        self.assertEqual(town.doer(number=0), ("pa", 1, False, "here"))
        self.assertEqual(town.stand(key="k"), ("no", "no"))
        self.assertIs(town.has_row(key="k"), False)
        self.assertEqual(town.run(key="k"), (("begin", "pa"), ("step", 0), ("lapse", 0)))
        self.assertIs(town.fall(doer=0), None)
        self.assertEqual(town.tried(deed=lambda one: one.time, keep=True), 3)
        late = Town(plain(), (scheme("p", "put", ask("a", "ra=no", "ra=row", 1, 1, "late"), say("again")),))
        late.begin("p", "k")
        self.assertEqual(late.leave(doer=0), 0)
        self.assertEqual(late.letter(number=0), ("p", 0, False, "letter"))
        self.assertIs(late.come(letter=0), None)
        late.begin("p", "l")
        self.assertIs(late.stay(doer=1), None)

    def test_each_method_is_defined_in_the_class(self):
        for name in ("begin step stay leave come lapse fall stand has_row doer letter history run back copy trial "
                     "tried").split():
            self.assertIn(name, vars(Town))
        self.assertEqual(Town.__module__, "unlikekeys.towns")
        for name in ("time", "known", "wrongs"):
            self.assertTrue(hasattr(self.town(), name))
        self.assertIs(towns.Town, Town)

    def test_numbers_in_the_whole_town(self):
        town = self.town()
        self.assertEqual([town.begin("pa", "k"), town.begin("pb", "l"), town.begin("pa", "k")], [0, 1, 2])
        self.tell(town, "step 2")
        self.assertEqual([town.doer(0)[1], town.doer(1)[1], town.doer(2)[1]], [0, 0, 1])
        self.assertEqual(town.doer(1), ("pb", 0, False, "here"))

    def test_no_scheme(self):
        for value in (*JUNK, "pc", "p", ("pa",), ["pa"], 0):
            town = self.town("begin pa k")
            self.refuse(town, lambda: town.begin(value, "k"), NoScheme, [value])

    def test_no_key(self):
        town = self.town("begin pa k", world=two_houses(lapses=(("a", "", "ra=no"),)))
        for value in (*JUNK, *NO_KEYS):
            if not (isinstance(value, str) and value.isalpha() and value.islower() and value.isascii() and len(value) < 9):
                self.refuse(town, lambda: town.begin("pa", value), NoKey, [value])
                for ask_for in (town.stand, town.has_row, town.run):
                    self.refuse(town, lambda: ask_for(value), NoKey, [value])
                self.refuse(town, lambda: town.lapse(value, 0), NoKey, [value])

    def test_the_first_error_counts(self):
        town = self.town()
        self.refuse(town, lambda: town.begin("pc", 5), NoScheme, ["pc"])
        self.refuse(town, lambda: town.lapse("", 5), NoKey, [""])
        self.refuse(town, lambda: town.lapse("k", 0), NoLapse, [0])


class Events(TownCase):
    def test_step(self):
        town = self.town("begin pa k")
        self.assertIs(town.step(0), None)
        self.assertEqual(town.step(0), "done")
        self.assertEqual(town.doer(0), ("ended", "done"))
        self.assertEqual((town.stand("k"), town.stand("l")), (("row", "no"), ("no", "no")))
        self.assertEqual((town.has_row("k"), town.has_row("l")), (True, False))
        town.begin("pa", "k")
        self.assertIs(town.step(1), None)
        self.assertEqual(town.step(1), "refused")

    def test_no_doer_and_no_letter(self):
        town = self.town("begin pa k", "begin pa l")
        for value in (*JUNK, *NO_NUMBERS, 2):
            for ask_for in (town.step, town.stay, town.leave, town.fall, town.doer):
                self.refuse(town, lambda: ask_for(value), NoDoer, [value])
            for ask_for in (town.come, town.letter):
                self.refuse(town, lambda: ask_for(value), NoLetter, [value])
        self.refuse(town, lambda: town.come(0), NoLetter, [0])

    def test_no_lapse(self):
        town = self.town("begin pa k", world=claims())
        for value in (*JUNK, *NO_NUMBERS, 1):
            self.refuse(town, lambda: town.lapse("k", value), NoLapse, [value])

    def test_no_event(self):
        town = self.town("begin pa k", "begin pa k", "step 0", "step 0")
        self.no_event(town, "step", 0)
        for word in ("stay", "leave"):
            self.no_event(town, word, 0)
            self.no_event(town, word, 1)
        self.no_event(town, "fall", 0)
        town = self.town(world=claims())
        self.no_event(town, "lapse", "k", 0)
        self.assertEqual(town.known, ())

    def test_the_number_is_the_one_of_the_town(self):
        town = self.town("begin pa k", "begin pa l", "begin pb l", "step 1", "step 1")
        self.no_event(town, "step", 1)
        self.no_event(town, "stay", 2)

    def test_fall(self):
        town = self.town("begin pa k", "step 0")
        self.assertIs(town.fall(0), None)
        self.assertEqual(town.doer(0), ("fallen", ("pa", 1, False, "here")))
        self.assertEqual(town.time, 2)
        for word in ("step", "stay", "leave", "fall"):
            self.no_event(town, word, 0)
        self.assertEqual(town.history(), ((1, None, "k", "put", None),))
        self.assertEqual(town.run("k"), (("begin", "pa"), ("step", 0)))

    def test_the_mark_of_one_that_fell(self):
        put = marking_put("pa", "a", "b")
        town = self.town("begin pa k", "step 0", "fall 0", schemes=(put, scheme("m", "move", do("a", "", "ra=no", 1, 1),
                                                                              say("done"))))
        self.assertEqual(town.doer(0), ("fallen", ("pa", 1, True, "here")))
        self.tell(town, "begin m l", "step 1")
        self.assertEqual(town.doer(0), ("fallen", ("pa", 1, True, "here")))
        self.tell(town, "begin m k", "step 2")
        self.assertEqual(town.doer(0), ("fallen", ("pa", 1, False, "here")))

    def test_schemes_called_as_ends(self):
        town = self.town("begin ended k", "begin fallen k", "fall 0",
                         schemes=(looking_put("ended", "a", "b"), looking_put("fallen", "b", "a")))
        self.assertEqual(town.doer(0), ("fallen", ("ended", 0, False, "here")))
        self.assertEqual(town.doer(1), ("fallen", 0, False, "here"))
        self.tell(town, "step 1", "step 1")
        self.assertEqual(town.doer(1), ("ended", "done"))

    def test_letters(self):
        late = scheme("p", "put", ask("a", "ra=no", "ra=row", 1, 2, "late"), say("done"), do("b", "", "", 3, 3), say("again"))
        town = self.town(schemes=(late,))
        self.tell(town, "begin p k", "begin p l")
        self.assertEqual([town.leave(1), town.leave(0)], [0, 1])
        self.assertEqual([town.letter(0), town.letter(1)], [("p", 0, False, "letter")] * 2)
        self.assertEqual(town.doer(0), ("p", 2, False, "here"))
        self.assertIs(town.come(1), None)
        self.assertEqual([town.has_row("k"), town.has_row("l")], [True, False])
        self.assertEqual([town.letter(0), town.letter(1)], [("p", 0, False, "letter"), None])
        self.no_event(town, "come", 1)
        self.assertEqual(town.run("k"), (("begin", "p"), ("leave", 0), ("come", 0)))

    def test_leaving_that_ends(self):
        late = scheme("p", "put", ask("a", "ra=no", "ra=row", 1, 2, "late"), say("done"), say("again"))
        town = self.town("begin p k", schemes=(late,))
        self.assertEqual(town.leave(0), 0)
        self.assertEqual(town.doer(0), ("ended", "again"))
        self.assertEqual(town.history(), ((1, 2, "k", "put", "again"),))
        self.tell(town, "come 0")
        self.assertEqual(town.has_row("k"), True)
        self.assertEqual(town.wrongs, ((3, "k", "moment"),))

    def test_a_letter_of_one_that_fell(self):
        late = scheme("p", "put", ask("a", "ra=no", "ra=row", 1, 1, "late"), do("b", "", "", 2, 2), say("again"))
        town = self.town("begin p k", "leave 0", "fall 0", "come 0", schemes=(late,))
        self.assertIs(town.has_row("k"), True)
        self.assertEqual(town.time, 3)

    def test_stays(self):
        kept = scheme("p", "put", ask("a", "ra=no", "ra=row", 1, 2, "kept"), say("done"), say("refused"))
        town = self.town("begin p k", schemes=(kept,))
        self.assertIs(town.stay(0), None)
        self.assertEqual((town.doer(0), town.has_row("k")), (("p", 0, False, "then"), True))
        self.no_event(town, "stay", 0)
        self.assertEqual(town.step(0), "done")

    def test_lapses(self):
        town = self.town("begin pa k", "step 0", "lapse l 0", "lapse k 0",
                         world=two_houses(lapses=(("b", "", "rb=row"),)))
        self.assertEqual((town.known, town.time), (("k", "l"), 4))
        self.assertEqual((town.stand("k"), town.stand("l")), (("no", "row"), ("no", "row")))
        self.assertEqual(town.wrongs, ((3, "l", "moment"), (4, "k", "moment")))

    def test_wrong_events_are_done(self):
        town = self.town("begin pa k", "begin pb k", "step 0", "begin pa l", "step 1", "step 0")
        self.assertEqual(town.wrongs, ())
        self.assertEqual(town.step(1), "done")
        self.assertEqual(town.stand("k"), ("row", "row"))
        self.assertEqual(town.wrongs, ((7, "k", "never"),))
        town.begin("pa", "k")
        self.tell(town, "step 2", "step 3")
        self.assertEqual(town.wrongs, ((7, "k", "never"), (8, "k", "never"), (10, "k", "never")))

    def test_wrongs_of_all_words(self):
        liar = scheme("p", "put", do("a", "ra=no", "ra=row", 1, 2), say("again"), say("refused"))
        world = two_houses(lapses=(("a", "ra=row", "ra=no"),))
        town = self.town("begin p k", "begin p k", "step 0", "lapse k 0", "begin p l", "step 1", "step 2", schemes=(liar,),
                         world=world)
        self.assertEqual(town.wrongs, ((3, "k", "answer"), (4, "k", "moment"), (6, "k", "answer"), (7, "l", "answer")))

    def test_known(self):
        town = self.town("begin pa m", "begin pa k", "step 0", "begin pb m", "lapse l 0", world=two_houses(
            lapses=(("a", "", "ra=no"),)))
        self.assertEqual(town.known, ("k", "l", "m"))
        town.stand("z")
        self.assertEqual(town.known, ("k", "l", "m"))


class Histories(TownCase):
    def test_sorts_and_answers(self):
        schemes = (PA, honest_look("l"), drop("d", "a"))
        town = self.town("begin pa k", "begin l k", "begin d k", "step 0", "step 0", "step 1", "step 2", schemes=schemes)
        self.assertEqual(town.history(), ((1, 5, "k", "put", "done"), (2, 6, "k", "look", "there"),
                                          (3, 7, "k", "drop", "done")))
        self.assertIs(is_history(town.history()), True)

    def test_no_moves(self):
        move = scheme("m", "move", do("a", "", "", 1, 1), say("again"))
        town = self.town("begin m k", "begin pa k", "step 0", "begin m l", "step 1", schemes=(move, PA))
        self.assertEqual(town.history(), ((2, None, "k", "put", None),))

    def test_not_ended_and_fallen(self):
        town = self.town("begin pa k", "begin pa l", "fall 0", "step 1")
        self.assertEqual(town.history(), ((1, None, "k", "put", None), (2, None, "l", "put", None)))

    def test_more_than_a_history_may_have(self):
        town = self.town(*["begin pa k"] * 9)
        self.assertEqual(town.history(), tuple((time, None, "k", "put", None) for time in range(1, 10)))
        self.assertIs(is_history(town.history()), False)
        town = self.town(*[f"begin pa {key}" for key in "abcdefghijklmnopqrstuvwxyz"])
        self.assertEqual(len(town.history()), 26)


class Runs(TownCase):
    def test_numbered_anew(self):
        late = scheme("p", "put", ask("a", "ra=no", "ra=row", 1, 1, "late"), do("b", "", "", 2, 2), say("again"))
        town = self.town("begin p l", "begin p k", "leave 1", "begin p l", "leave 2", "leave 0", "begin p k", "step 3",
                         "come 2", "come 1", schemes=(late,))
        self.assertEqual(town.run("l"), (("begin", "p"), ("begin", "p"), ("leave", 1), ("leave", 0), ("come", 1),
                                         ("come", 0)))
        self.assertEqual(town.run("k"), (("begin", "p"), ("leave", 0), ("begin", "p"), ("step", 1)))
        self.assertEqual(town.run("m"), ())

    def test_the_same_as_played_tells(self):
        for seed in range(40):
            town, other = chance_town(random.Random(seed), 40)
            state = other.state()
            for key in (*town.known, "zz"):
                run = town.run(key)
                self.assertIs(is_run(town.world, town.schemes, run), True)
                play = played(town.world, town.schemes, run)
                self.assertEqual(play.last_stand, town.stand(key))
                words = [word for _, one, word in town.wrongs if one == key]
                self.assertEqual(play.wrong[1:] if play.wrong else (), tuple(words[:1]))
                doers = [town.doer(number) for number, (one, _) in enumerate(state.doers) if one == key]
                self.assertEqual(list(play.doers), [who[1] if who[0] == "fallen" and len(who) == 2 else who
                                                    for who in doers])
                letters = [town.letter(number) for number, (one, _) in enumerate(state.letters) if one == key]
                self.assertEqual(list(play.letters), letters)


def chance_thing(chance, world, schemes, state):
    """Something to tell to a town in this state, mostly possible."""
    word = chance.choice(("begin", "begin", "step", "step", "step", "step", "step", "stay", "leave", "come", "lapse", "fall"))
    if word == "fall" and chance.random() < 0.6:
        word = "step"
    if word == "begin":
        name = chance.choice(schemes)[0] if chance.random() < 0.95 else "none"
        return (word, name, chance.choice(("k", "k", "l", "m")) if chance.random() < 0.95 else "K")
    if word == "lapse":
        number = chance.randrange(len(world.lapses) + 1)
        return (word, chance.choice(("k", "l", "n")) if chance.random() < 0.95 else 5, number)
    if word == "come":
        return (word, chance.randrange(len(state.letters) + 1))
    on_the_way = [number for number in range(len(state.doers)) if not state.ended(number)]
    if on_the_way and chance.random() < 0.9:
        return (word, chance.choice(on_the_way))
    return (word, chance.randrange(len(state.doers) + 1))


def chance_town(chance, many, check=None):
    """A town and the plain one, told the same."""
    if chance.random() < 0.5:
        world = claim_world(chance)
        schemes = line_schemes(chance, world, 3)
    elif chance.random() < 0.5:
        world = chance_world(chance)
        schemes = chance_schemes(chance, world, 3)
    else:
        world, schemes = chance.choice(bases())
    town, other = Town(world, schemes), PlainTown(world, schemes)
    for _ in range(many):
        thing = ("back",) if chance.random() < 0.06 else chance_thing(chance, world, schemes, other.state())
        found, error = told_to(town, thing)
        expected = other.back() if thing == ("back",) else other.tell(thing)
        if check:
            check(thing, found, error, expected, town, other)
    return town, other


class Chance(TownCase):
    """Towns by chance, compared with a plain second writing after each thing that they were told."""

    def check(self, thing, found, error, expected, town, other):
        self.assertEqual(repr(error), repr(expected), thing)
        state = other.state()
        keys = ("k", "l", "m", "n", "zz")
        self.assertEqual(repr(asked_of(town, keys)), repr(state.asked(keys)))
        if error is None and thing[0] == "begin":
            self.assertEqual(found, len(state.doers) - 1)
        elif error is None and thing[0] == "leave":
            self.assertEqual(found, len(state.letters) - 1)
        elif error is None and thing[0] == "step" and state.ended(thing[1]):
            self.assertEqual(found, state.who(thing[1])[1])
        else:
            self.assertIs(found, None)

    def test_compared(self):
        words = set()
        for seed in range(300):
            town, _ = chance_town(random.Random(seed), 60 if seed < 20 else 25, self.check)
            words |= {word for _, _, word in town.wrongs}
        self.assertEqual(words, {"never", "moment", "answer"})

    def test_back_all_the_way(self):
        for seed in range(40):
            chance = random.Random(f"back {seed}")
            town, other = chance_town(chance, 30)
            while other.told:
                self.assertIs(town.back(), None)
                other.back()
                self.assertEqual(asked_of(town, ("k", "l", "m")), other.state().asked(("k", "l", "m")))
            self.assertEqual(town, Town(town.world, town.schemes))
            with self.assertRaises(NothingToUndo):
                town.back()

    def test_told_again(self):
        for seed in range(40):
            town, other = chance_town(random.Random(f"again {seed}"), 30)
            again = Town(town.world, town.schemes)
            for thing in other.told:
                self.assertNotEqual(again, town)
                told_to(again, thing)
            self.assertEqual(again, town)


class Back(TownCase):
    def test_each_event(self):
        schemes = (scheme("p", "put", ask("a", "ra=no", "ra=row", 1, 2, "late"), say("done"), do("b", "", "", 0, 0)), )
        town = self.town(schemes=schemes, world=two_houses(lapses=(("a", "ra=row", "ra=no"),)))
        told = ("begin p k", "leave 0", "step 0", "come 0", "lapse k 0", "stay 0", "begin p l", "fall 0", "step 1")
        seen = []
        for line in told:
            seen.append((asked_of(town, ("k", "l")), town.copy()))
            self.tell(town, line)
        for before, twin in reversed(seen):
            self.assertIs(town.back(), None)
            self.assertEqual(asked_of(town, ("k", "l")), before)
            self.assertEqual(town, twin)
        self.refuse(town, town.back, NothingToUndo, [])

    def test_what_was_taken_back_was_never_told(self):
        town = self.town("begin pa k", "begin pa l", "step 1")
        town.back()
        town.back()
        self.assertEqual((town.known, town.time), (("k",), 1))
        self.refuse(town, lambda: town.doer(1), NoDoer, [1])
        self.assertEqual(town.begin("pb", "m"), 1)
        self.assertEqual(town, self.town("begin pa k", "begin pb m"))

    def test_a_call_that_raised_is_not_taken_back(self):
        town = self.town("begin pa k", "step 0")
        self.no_event(town, "stay", 0)
        town.back()
        self.assertEqual(town.doer(0), ("pa", 0, False, "here"))

    def test_questions_are_not_taken_back(self):
        town = self.town("begin pa k", "step 0")
        asked_of(town, ("k",))
        town.copy()
        town.back()
        self.assertEqual(town.time, 1)


class Copies(TownCase):
    def test_each_goes_on_by_itself(self):
        town = self.town("begin pa k", "step 0")
        other = town.copy()
        self.assertIsNot(other, town)
        self.assertEqual(other, town)
        self.tell(other, "step 0")
        self.assertEqual((town.has_row("k"), other.has_row("k")), (False, True))
        self.tell(town, "fall 0")
        self.assertEqual((town.doer(0), other.doer(0)), (("fallen", ("pa", 1, False, "here")), ("ended", "done")))
        self.assertNotEqual(other, town)

    def test_takes_back_what_was_told_ahead(self):
        town = self.town("begin pa k", "step 0")
        other = town.copy()
        other.back()
        other.back()
        self.assertEqual((other.time, town.time), (0, 2))
        self.refuse(other, other.back, NothingToUndo, [])
        town.back()
        self.assertEqual(town.time, 1)

    def test_in_a_trial(self):
        town = self.town("begin pa k")
        with town.trial():
            town.step(0)
            other = town.copy()
        self.assertEqual((town.time, other.time), (1, 2))
        with other.trial():
            town.step(0)
        self.assertEqual((town.time, other.time), (2, 2))


class Equality(TownCase):
    def test_equal(self):
        self.assertEqual(self.town(), self.town())
        self.assertEqual(self.town("begin pa k", "step 0", "fall 0"), self.town("begin pa k", "step 0", "fall 0"))
        self.assertIs(self.town("begin pa k", "back") == self.town(), True)
        self.assertIs(self.town("begin pa k") != self.town("begin pa k"), False)

    def test_not_equal(self):
        town = self.town("begin pa k", "begin pa l")
        for other in (self.town("begin pa l", "begin pa k"), self.town("begin pa k"), self.town("begin pa k", "begin pb l"),
                      self.town("begin pa k", "begin pa l", "fall 0"), self.town("begin pa k", "begin pa l", "step 0"),
                      self.town("begin pa k", "begin pa k"),
                      self.town("begin pa k", "begin pa l", schemes=(PA,)),
                      self.town("begin pa k", "begin pa l", schemes=(PB, PA)),
                      self.town("begin pa k", "begin pa l", world=two_houses(lapses=(("a", "", "ra=no"),)))):
            self.assertIs(town == other, False)
            self.assertIs(town != other, True)

    def test_equal_to_nothing_else(self):
        town = self.town()
        for value in (*JUNK, town.world, town.schemes, (), 0):
            self.assertIs(town == value, False)
            self.assertIs(value == town, False)


class Trials(TownCase):
    def setUp(self):
        self.one = self.town("begin pa k", "step 0")
        self.before = asked_of(self.one, ("k", "l"))

    def check_as_before(self):
        self.assertEqual(asked_of(self.one, ("k", "l")), self.before)
        self.assertEqual(self.one, self.town("begin pa k", "step 0"))

    def test_not_kept(self):
        with self.one.trial():
            self.tell(self.one, "step 0", "begin pb l", "step 1", "fall 1")
            self.assertEqual(self.one.time, 5)
        self.check_as_before()
        self.assertEqual(self.one.begin("pa", "m"), 1)
        self.one.back()
        self.one.back()
        self.assertEqual(self.one, self.town("begin pa k"))

    def test_kept(self):
        with self.one.trial() as trial:
            self.tell(self.one, "step 0")
            self.assertIs(trial.keep(), None)
            self.tell(self.one, "begin pb l")
        self.assertEqual(self.one, self.town("begin pa k", "step 0", "step 0", "begin pb l"))
        self.one.back()
        self.assertEqual(self.one.time, 3)

    def test_left_by_an_error(self):
        for keep in (False, True):
            with self.assertRaises(ZeroDivisionError):
                with self.one.trial() as trial:
                    self.tell(self.one, "step 0")
                    if keep:
                        trial.keep()
                    raise ZeroDivisionError("x")
            self.check_as_before()

    def test_left_by_an_error_of_the_town(self):
        with self.assertRaises(NoEvent):
            with self.one.trial() as trial:
                trial.keep()
                self.tell(self.one, "step 0", "step 0")
        self.check_as_before()

    def test_an_error_caught_within(self):
        with self.one.trial() as trial:
            with self.assertRaises(NoEvent):
                self.one.stay(0)
            self.one.step(0)
            trial.keep()
        self.assertEqual(self.one.time, 3)

    def test_left_by_return(self):
        def left(keep):
            with self.one.trial() as trial:
                self.one.step(0)
                if keep:
                    trial.keep()
                return 5

        self.assertEqual(left(False), 5)
        self.check_as_before()
        self.assertEqual(left(True), 5)
        self.assertEqual(self.one.time, 3)

    def test_back_within(self):
        with self.one.trial():
            self.one.back()
            self.one.back()
            self.refuse(self.one, self.one.back, NothingToUndo, [])
            self.tell(self.one, "begin pb l")
        self.check_as_before()
        with self.one.trial() as trial:
            self.one.back()
            trial.keep()
        self.assertEqual(self.one, self.town("begin pa k"))

    def test_one_within_another(self):
        for outer, inner, time in ((False, False, 2), (False, True, 2), (True, False, 4), (True, True, 5)):
            town = self.one.copy()
            with town.trial() as first:
                self.tell(town, "step 0")
                with town.trial() as second:
                    self.tell(town, "begin pb l")
                    if inner:
                        second.keep()
                self.assertEqual(town.time, 4 if inner else 3)
                self.tell(town, "begin pa m")
                if outer:
                    first.keep()
            self.assertEqual(town.time, time)

    def test_an_error_between(self):
        with self.one.trial() as first:
            self.tell(self.one, "step 0")
            with self.assertRaises(NoEvent):
                with self.one.trial() as second:
                    second.keep()
                    self.tell(self.one, "begin pb l", "step 0")
            self.assertEqual(self.one.time, 3)
            first.keep()
        self.assertEqual(self.one, self.town("begin pa k", "step 0", "step 0"))

    def test_keep_of_another_one(self):
        with self.one.trial() as first:
            self.tell(self.one, "step 0")
            with self.one.trial():
                self.tell(self.one, "begin pb l")
                first.keep()
            self.assertEqual(self.one.time, 3)
        self.assertEqual(self.one.time, 3)

    def test_from_the_begin_of_the_block(self):
        trial = self.one.trial()
        self.one.step(0)
        with trial:
            self.tell(self.one, "begin pb l")
        self.assertEqual(self.one.time, 3)

    def test_keep_out_of_the_block(self):
        trial = self.one.trial()
        trial.keep()
        with trial:
            self.one.step(0)
        self.check_as_before()
        trial.keep()
        with trial as held:
            self.one.step(0)
            held.keep()
        self.assertEqual(self.one.time, 3)
        with trial:
            self.tell(self.one, "begin pb l")
        self.assertEqual(self.one.time, 3)

    def test_the_same_one_within_itself(self):
        trial = self.one.trial()
        with trial:
            self.one.step(0)
            with trial:
                self.tell(self.one, "begin pb l")
                trial.keep()
            self.assertEqual(self.one.time, 4)
        self.check_as_before()

    def test_other_towns_are_not_touched(self):
        other = self.one.copy()
        with self.one.trial():
            other.step(0)
        self.assertEqual(other.time, 3)

    def test_tried(self):
        self.assertEqual(self.one.tried(lambda town: (town.step(0), town.time)), ("done", 3))
        self.check_as_before()
        seen = []
        self.one.tried(seen.append)
        self.assertIs(seen[0], self.one)
        self.assertEqual(self.one.tried(lambda town: town.step(0), keep=True), "done")
        self.assertEqual(self.one.time, 3)

    def test_only_true_keeps(self):
        for keep in (1, "yes", (True,), [True], {"keep": True}, None, False, 0):
            self.assertEqual(self.one.tried(lambda town: town.step(0), keep=keep), "done")
            self.check_as_before()

    def test_keep_is_told_by_name(self):
        with self.assertRaises(TypeError):
            self.one.tried(lambda town: None, True)

    def test_tried_with_an_error(self):
        for keep in (False, True):
            with self.assertRaises(NoKey):
                self.one.tried(lambda town: (town.step(0), town.stand("")), keep=keep)
            self.check_as_before()

    def test_tried_within_tried(self):
        def outer(town):
            town.step(0)
            town.tried(lambda one: one.begin("pb", "l"), keep=True)
            town.tried(lambda one: one.begin("pb", "m"))
            return town.time

        self.assertEqual(self.one.tried(outer), 4)
        self.check_as_before()
        self.assertEqual(self.one.tried(outer, keep=True), 4)
        self.assertEqual(self.one.known, ("k", "l"))

    def test_by_chance(self):
        """Trials by chance leave just what is kept."""
        for seed in range(60):
            chance = random.Random(f"trial {seed}")
            town, other = chance_town(chance, 12)
            self.nest(chance, town, other, 0)
            self.assertEqual(asked_of(town, ("k", "l", "m")), other.state().asked(("k", "l", "m")))

    def nest(self, chance, town, other, depth):
        for _ in range(3):
            told = list(other.told)
            kept = chance.random() < 0.5
            with town.trial() as trial:
                for _ in range(4):
                    thing = ("back",) if chance.random() < 0.3 else chance_thing(chance, town.world, town.schemes,
                                                                                 other.state())
                    told_to(town, thing)
                    other.back() if thing == ("back",) else other.tell(thing)
                if depth < 2:
                    self.nest(chance, town, other, depth + 1)
                if kept:
                    trial.keep()
            if not kept:
                other.told = told


class Samples(TownCase):
    def test_claims_in_many_keys(self):
        town = self.town(world=claims(()), schemes=(claiming_put("pa", "a", "b"), claiming_put("pb", "b", "a")))
        for key in ("k", "l", "m"):
            self.tell(town, f"begin pa {key}", f"begin pb {key}")
        for number in (0, 3, 4) * 3:
            self.assertIs(town.step(number), None)
        self.assertEqual([town.step(number) for number in (1, 2, 5)], ["again"] * 3)
        self.assertEqual([town.step(number) for number in (0, 3, 4)], ["done"] * 3)
        self.assertEqual([town.stand(key) for key in ("k", "l", "m")],
                         [("row", "no", "open"), ("no", "row", "open"), ("row", "no", "open")])
        self.assertEqual(town.wrongs, ())

    def test_values_stay_as_they_are(self):
        world, schemes = plain(), (PA, PB)
        before = repr((vars(world), schemes))
        self.tell(Town(world, schemes), "begin pa k", "step 0", "step 0", "back", "fall 0")
        self.assertEqual(repr((vars(world), schemes)), before)

    def test_a_town_of_one_slot(self):
        world = World(("a",), (("ra", "a", ("no", "row")),), (pattern("ra=row"),), (), ())
        town = Town(world, (scheme("p", "put", do("a", "ra=no", "ra=row", 1, 2), say("done"), say("refused")),))
        self.tell(town, "begin p k", "step 0", "begin p k")
        self.assertEqual(town.step(1), "refused")
        self.assertEqual(town.wrongs, ())
