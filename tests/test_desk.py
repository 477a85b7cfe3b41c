"""A desk: each line with each answer, what is no line, and the errors behind the lines."""

import random
import unittest

from tests.making import ask, bases, claiming_put, claims, do, drop, looking_put, marking_put, plain, say, scheme, two_houses
from tests.samples import JUNK
from tests.test_texts import PA_TEXT, PLAIN_TEXT
from tests.test_towns import Town, asked_of
from unlikekeys import desk as desk_file
from unlikekeys import errors
from unlikekeys.barring import barred
from unlikekeys.desk import Desk
from unlikekeys.doubts import sure
from unlikekeys.errors import (BadHistory, BadSchemes, BadText, BadWorld, NoDoer, NoEvent, NoKey, NoLapse, NoLetter, NoLine,
                               NoOrder, NoScheme, NothingToUndo)
from unlikekeys.judging import judged
from unlikekeys.orders import explained
from unlikekeys.runs import played
from unlikekeys.showing import show_history, show_schemes, show_world

PA = looking_put("pa", "a", "b")
PB = looking_put("pb", "b", "a")


def desk_of(world, *schemes):
    return Desk(show_world(world), show_schemes(world, schemes))


class DeskCase(unittest.TestCase):
    def check(self, desk, text):
        """`begin pa k: 0 / step 0: on` said one behind the other."""
        for part in text.split(" / "):
            line, _, answer = part.partition(": ")
            self.assertEqual(desk.say(line), answer, line)

    def refuse(self, desk, line, error, kept):
        before, twin = asked_of(desk.town, desk.town.known), desk.town.copy()
        with self.assertRaises(errors.UnlikeError) as caught:
            desk.say(line)
        self.assertIs(type(caught.exception), error, line)
        self.assertEqual(repr(list(vars(caught.exception).values())), repr(kept))
        self.assertEqual(asked_of(desk.town, desk.town.known), before)
        self.assertEqual(desk.town, twin)


class Texts(DeskCase):
    def test_a_town(self):
        desk = Desk(schemes_text=PA_TEXT, world_text=PLAIN_TEXT)
        self.assertEqual(desk.town, Town(plain(), (PA,)))
        self.assertIs(type(desk.town), Town)
        self.assertEqual(desk.say(line="begin pa k"), "0")
        self.assertEqual(Desk.__module__, "unlikekeys.desk")
        self.assertIn("say", vars(desk_file.Desk))

    def test_bad_texts(self):
        for world, schemes, error, kept in (
                (None, None, BadText, None), (PLAIN_TEXT, None, BadText, None), (5, PA_TEXT, BadText, None),
                ("", "", BadText, 0), (PLAIN_TEXT + "\nx", "x", BadText, 6), (PLAIN_TEXT, PA_TEXT + "\nx", BadText, 5),
                ("houses", None, BadWorld, ((), (), (), (), ())), ("houses", "x", BadWorld, ((), (), (), (), ())),
                (PLAIN_TEXT, "scheme pa put", BadSchemes, (("pa", "put", (), ()),))):
            with self.assertRaises(errors.UnlikeError) as caught:
                Desk(world, schemes)
            self.assertIs(type(caught.exception), error)
            self.assertEqual(list(vars(caught.exception).values()), [kept])
        for value in JUNK:
            if not isinstance(value, str):
                for world, schemes in ((value, PA_TEXT), (PLAIN_TEXT, value), (value, value)):
                    with self.assertRaises(BadText) as caught:
                        Desk(world, schemes)
                    self.assertIs(caught.exception.line, None)


class Lines(DeskCase):
    def test_judge(self):
        self.check(desk_of(plain(), PA), "judge: right 2")
        self.check(desk_of(plain(), PA, PB), "judge: wrong never 4")
        self.check(desk_of(plain(), scheme("l", "look", do("a", "", "", 1, 1), say("there"))), "judge: wrong answer 1")
        self.check(desk_of(two_houses(lapses=(("a", "", "ra=row"),)), PA), "judge: wrong moment 1")
        self.check(desk_of(plain(), scheme("l", "look", do("a", "", "", 0, 0), say("there"))), "judge: right 1")

    def test_judge_as_judged_tells(self):
        for world, schemes in bases()[:10]:
            found = judged(world, schemes)
            answer = desk_of(world, *schemes).say("judge")
            if found[0] == "right":
                self.assertEqual(answer, f"right {len(found[1])}")
            else:
                many = len([event for event in found[1] if event[0] != "begin"])
                self.assertEqual(answer, f"wrong {played(world, schemes, found[1]).wrong[1]} {many}")

    def test_barred(self):
        self.check(desk_of(plain(), PA), "barred pa: no")
        self.check(desk_of(claims(()), claiming_put("pa", "a", "b"), claiming_put("pb", "b", "a")), "barred pa: yes 1 / barred pb: yes 1")
        self.check(desk_of(plain(), scheme("p", "put", do("a", "", "", 1, 1), say("again"))), "barred p: yes 0")
        for world, schemes in bases()[:8]:
            for one in schemes:
                found = barred(world, schemes, one[0])
                many = len([event for event in found[1] if event[0] != "begin"])
                self.assertEqual(desk_of(world, *schemes).say(f"barred {one[0]}"), "no" if found[0] == "never" else f"yes {many}")

    def test_doers(self):
        self.check(desk_of(plain(), PA), "begin pa k: 0 / begin pa l: 1 / step 0: on / step 0: done / begin pa k: 2 / step 2: on / "
                                         "step 2: refused / fall 1: ok / back: ok / step 1: on / back: ok / back: ok")

    def test_asks(self):
        kept = scheme("p", "put", ask("a", "ra=no", "ra=row", 1, 2, "kept"), say("done"), say("refused"))
        self.check(desk_of(plain(), kept), "begin p k: 0 / stay 0: ok / row k: yes / step 0: done / stand k: row no")
        late = scheme("p", "put", ask("a", "ra=no", "ra=row", 1, 1, "late"), do("b", "", "", 2, 2), say("again"))
        self.check(desk_of(plain(), late), "begin p k: 0 / begin p l: 1 / leave 1: 0 / leave 0: 1 / come 0: ok / row k: no / row l: yes")

    def test_stands(self):
        desk = desk_of(claims((("a", "", "ca=shut"),)), claiming_put("pa", "a", "b"))
        self.check(desk, "stand k: no no open / row k: no / lapse k 0: ok / stand k: no no shut / stand l: no no open")

    def test_wrongs(self):
        desk = desk_of(plain(), PA, PB)
        self.check(desk, "wrongs: - / begin pa k: 0 / begin pb k: 1 / step 0: on / step 1: on / step 0: done / wrongs: - / "
                         "step 1: done / wrongs: 6 k never / begin pa k: 2 / wrongs: 6 k never; 7 k never / back: ok / back: ok / wrongs: -")

    def test_history(self):
        desk = desk_of(plain(), PA, drop("d", "a"), scheme("m", "move", do("a", "", "", 1, 1), say("done")))
        self.check(desk, "history: - / begin m k: 0 / history: - / begin pa k: 1 / history: 2 - k put - / step 1: on / step 1: done / "
                         "begin d l: 2 / history: 2 4 k put done; 5 - l drop - / step 2: again / history: 2 4 k put done; 5 6 l drop again")

    def test_a_long_history(self):
        desk = desk_of(plain(), PA)
        for number in range(9):
            self.check(desk, f"begin pa k: {number}")
        self.check(desk, "history: " + "; ".join(f"{time} - k put -" for time in range(1, 10)))
        for line in ("explain", "sure k 0", "sure K 0"):
            self.refuse(desk, line, BadHistory, [desk.town.history()])

    def test_explain(self):
        desk = desk_of(plain(), PA, PB)
        self.check(desk, "explain: - / begin pa k: 0 / explain: - / step 0: on / step 0: done / explain: 0 / begin pb k: 1 / "
                         "step 1: refused / explain: 0 1")
        self.check(desk_of(plain(), PA, PB), "begin pa k: 0 / begin pb k: 1 / step 0: on / step 1: on / step 0: done / step 1: done / "
                                             "explain: none")

    def test_sure(self):
        desk = desk_of(plain(), PA)
        self.check(desk, "sure k 0: no / sure k 999999999: no / begin pa k: 0 / sure k 1: no / sure k 2: open / step 0: on / step 0: done / "
                         "sure k 1: no / sure k 2: open / sure k 3: yes / sure l 3: no")

    def test_a_town_changed_beside_it(self):
        desk = desk_of(plain(), PA)
        desk.town.begin("pa", "k")
        self.check(desk, "step 0: on / step 0: done")
        self.assertEqual(desk.town.time, 3)
        desk.town.back()
        self.check(desk, "row k: no / step 0: done / back: ok / history: 1 - k put -")
        with desk.town.trial():
            self.check(desk, "step 0: done / row k: yes")
        self.check(desk, "row k: no")


class NoLines(DeskCase):
    def setUp(self):
        self.desk = desk_of(two_houses(lapses=(("a", "", "ra=no"),)), PA)
        self.desk.say("begin pa k")

    def refuse_line(self, line):
        self.refuse(self.desk, line, NoLine, [line])

    def test_no_strings(self):
        for value in (*JUNK, ("judge",), ["judge"], ("begin", "pa", "k"), {"judge": 1}):
            self.refuse_line(value)

    def test_words(self):
        lines = ("judge", "barred pa", "begin pa k", "step 0", "stay 0", "fall 0", "come 0", "lapse k 0", "back", "leave 0", "stand k",
                 "row k", "wrongs", "history", "explain", "sure k 0")
        for line in lines:
            words = line.split(" ")
            others = [line + " x", line + " 0", " " + line, line + " ", line + "\n", "\n" + line, line.upper(), line.capitalize(),
                      words[0] + "x", words[0] + ";", words[0][:-1], " ".join(words[:-1])]
            for blank in ("  ", "\n", "\t", " \n", "\u00a0"):
                others.extend([line.replace(" ", blank)] if " " in line else [line + blank])
            for other in others:
                self.refuse_line(other)
        for line in ("barred ", "begin  k", "begin pa ", "begin  ", "stand ", "row ", "sure  0", "lapse  0", "step ", "sure k "):
            self.refuse_line(line)
        for line in ("", " ", "judge judge", "tell", "time", "known", "run k", "copy", "doer 0", "letter 0", "trial", "right 2", "has_row k"):
            self.refuse_line(line)

    def test_numbers(self):
        for number in ("00", "01", "-1", "+1", "-0", "1234567890", "0000000001", "1.0", "x", "0x1", "1_0", "\u0661", "", "1e3", "true"):
            for line in ("step", "stay", "fall", "come", "leave", "lapse k", "sure k"):
                self.refuse_line(f"{line} {number}")

    def test_nine_digits(self):
        for word in ("step", "stay", "fall", "leave"):
            self.refuse(self.desk, f"{word} 999999999", NoDoer, [999999999])
        self.refuse(self.desk, "come 123456789", NoLetter, [123456789])

    def test_any_words(self):
        for word in ("K", "k9", "abcdefghi", "-", "k;", "\t", "k\tl", "\u00e4", "0", "k\r", "=", "a" * 3000):
            self.refuse(self.desk, f"begin {word} k", NoScheme, [word])
            self.refuse(self.desk, f"barred {word}", NoScheme, [word])
            self.refuse(self.desk, f"begin pa {word}", NoKey, [word])
            self.refuse(self.desk, f"lapse {word} 5", NoKey, [word])
            for line in ("stand", "row"):
                self.refuse(self.desk, f"{line} {word}", NoKey, [word])
            self.refuse(self.desk, f"sure {word} 0", NoKey, [word])

    def test_errors_of_the_town(self):
        self.refuse(self.desk, "begin pb K", NoScheme, ["pb"])
        for word in ("step", "stay", "leave", "fall"):
            self.refuse(self.desk, f"{word} 1", NoDoer, [1])
        self.refuse(self.desk, "come 0", NoLetter, [0])
        self.refuse(self.desk, "lapse k 1", NoLapse, [1])
        for word in ("stay", "leave"):
            self.refuse(self.desk, f"{word} 0", NoEvent, [(word, 0)])
        self.check(self.desk, "fall 0: ok")
        for word in ("step", "stay", "leave", "fall"):
            self.refuse(self.desk, f"{word} 0", NoEvent, [(word, 0)])
        self.check(self.desk, "back: ok / back: ok")
        self.refuse(self.desk, "back", NothingToUndo, [])
        shut = desk_of(claims(), claiming_put("pa", "a", "b"))
        self.refuse(shut, "lapse k 0", NoEvent, [("lapse", 0)])

    def test_no_order(self):
        desk = desk_of(plain(), PA, PB)
        self.check(desk, "begin pa k: 0 / begin pb k: 1 / step 0: on / step 1: on / step 0: done / step 1: done")
        self.refuse(desk, "sure l 0", NoOrder, ["k"])
        self.refuse(desk, "sure L 0", NoKey, ["L"])


class Chance(DeskCase):
    def test_beside_a_town(self):
        """A desk answers as a town that is told the same."""
        for seed in range(60):
            chance = random.Random(seed)
            world, schemes = chance.choice(bases()[:14])
            desk, town = desk_of(world, *schemes), Town(world, schemes)
            for _ in range(40):
                word = chance.choice(("begin", "begin", "step", "step", "step", "stay", "leave", "come", "lapse", "fall", "back"))
                values = {"begin": (chance.choice(schemes)[0], chance.choice(("k", "l"))), "back": (),
                          "lapse": (chance.choice(("k", "l")), chance.randrange(2))}.get(word, (chance.randrange(5),))
                self.same(desk, " ".join([word, *map(str, values)]), lambda: getattr(town, word)(*values),
                          {"stay": "ok", "come": "ok", "lapse": "ok", "fall": "ok", "back": "ok"}.get(word, "on"))
                key = chance.choice(("k", "l"))
                self.assertEqual(desk.say(f"stand {key}").split(" "), list(town.stand(key)))
                self.assertEqual(desk.say(f"row {key}"), "yes" if town.has_row(key) else "no")
                self.assertEqual(desk.town, town)
            self.check_history(desk, town)

    def same(self, desk, line, call, nothing):
        try:
            expected = call()
        except errors.UnlikeError as error:
            with self.assertRaises(type(error)) as caught:
                desk.say(line)
            self.assertEqual(vars(caught.exception), vars(error))
        else:
            self.assertEqual(desk.say(line), nothing if expected is None else str(expected))

    def check_history(self, desk, town):
        history = town.history()
        try:
            text = show_history(history)
        except BadHistory:
            return
        self.assertEqual(desk.say("history"), text.replace("\n", "; ") or "-")
        order = explained(history)
        self.assertEqual(desk.say("explain"), "none" if order is None else " ".join(map(str, order)) or "-")
        for time in range(town.time + 2):
            self.same_sure(desk, history, time)

    def same_sure(self, desk, history, time):
        try:
            expected = sure(history, "k", time)
        except NoOrder as error:
            with self.assertRaises(NoOrder) as caught:
                desk.say(f"sure k {time}")
            self.assertEqual(caught.exception.key, error.key)
        else:
            self.assertEqual(desk.say(f"sure k {time}"), {True: "yes", False: "no", None: "open"}[expected])

    def test_marks(self):
        desk = desk_of(plain(), marking_put("pa", "a", "b"), marking_put("pb", "b", "a"))
        self.check(desk, "begin pa k: 0 / begin pb k: 1 / step 0: on / step 1: on / step 0: on / step 1: on / step 0: again / "
                         "step 1: again / explain: - / row k: no")
