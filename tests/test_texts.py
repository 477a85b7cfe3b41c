"""Texts: worlds, schemes, runs and histories, shown and read back."""

import random
import unittest

from tests.chance import chance_schemes, chance_world
from tests.making import bases, plain
from tests.plain_histories import chance_history
from tests.samples import JUNK, PA, RICH_SCHEMES, changed, plain_world, rich_world
from tests.test_histories import MIXED, SAMPLE
from unlikekeys import reading, showing
from unlikekeys.errors import BadHistory, BadRun, BadSchemes, BadText, BadWorld
from unlikekeys.reading import read_history, read_run, read_schemes, read_world
from unlikekeys.showing import show_history, show_run, show_schemes, show_world

PLAIN_TEXT = """houses a b
slot ra a no row
slot rb b no row
bears ra=row
bears rb=row
never ra=row rb=row"""
RICH_TEXT = """houses east south west
slot row west no full half
slot lock east open by shut
slot at east none row
bears at=row lock=shut
bears row=full
bears row=half
never at=row row=full
never lock=by row=half
lapse east lock=by : lock=open
lapse west : row=no"""
PA_TEXT = """scheme pa put
do b rb=no : : : 1 3
do a ra=no : ra=row : : 2 3
say done
say refused"""
RICH_SCHEMES_TEXT = """scheme take put at lock
ask east at=none lock=open : lock=by : late mark : 1 4
do west : row=full : : 2 3
do east lock=by : lock=open : mark same : 3 2
say done
say again
scheme see look
ask west row=no : : kept : 1 2
say none
say there
scheme tidy move row
do south : : : 1 0
say done"""
RUN = (("begin", "pa"), ("step", 0), ("stay", 12), ("leave", 3), ("come", 10 ** 17), ("lapse", 0))
RUN_TEXT = "begin pa\nstep 0\nstay 12\nleave 3\ncome 100000000000000000\nlapse 0"
MIXED_TEXT = """2 9 k put done
3 - l drop -
4 5 k look again
6 - k look -
7 8 l put again
10 20 long drop none"""
NO_NUMBERS = ("00", "01", "007", "+1", "-1", "-0", "1.0", "1_0", "0x1", "one", "", " 1", "1 ", "\u0661", "\u00b2", "1\t", "None",
              "--", "-", "1e3")
NO_NAMES = ("", "A", "Pa", "pa9", "abcdefghi", "a.b", "a=b", "-", "\u00e4", "\u0430", "a\t", "\ta", "a\r", "0")


class TextsCase(unittest.TestCase):
    def bad_text(self, call, line):
        with self.assertRaises(BadText) as caught:
            call()
        self.assertEqual(repr(caught.exception.line), repr(line))

    def bad_value(self, call, error, value):
        with self.assertRaises(error) as caught:
            call()
        self.assertEqual(repr(caught.exception.value), repr(value))


class Worlds(TextsCase):
    def refuse(self, text, line):
        self.bad_text(lambda: read_world(text), line)

    def test_both_ways(self):
        for world, text in ((plain_world(), PLAIN_TEXT), (rich_world(), RICH_TEXT)):
            self.assertEqual(show_world(world), text)
            self.assertEqual(read_world(text), world)

    def test_by_chance(self):
        for seed in range(100):
            world = chance_world(random.Random(seed))
            self.assertEqual(read_world(show_world(world)), world)

    def test_each_line_left_out(self):
        lines = RICH_TEXT.split("\n")
        self.refuse("\n".join(lines[1:]), 0)
        for place in range(1, len(lines)):
            less = "\n".join(lines[:place] + lines[place + 1:])
            if lines[place].startswith("slot"):
                with self.assertRaises(BadWorld):
                    read_world(less)
            else:
                self.assertEqual(show_world(read_world(less)), less)

    def test_no_string(self):
        for value in (*JUNK, ["houses a"], ("houses a",)):
            if not isinstance(value, str):
                self.refuse(value, None)

    def test_the_empty_text(self):
        self.refuse("", 0)
        self.refuse("\n", 0)
        self.refuse(PLAIN_TEXT + "\n", 6)
        self.refuse("\n" + PLAIN_TEXT, 0)
        self.refuse(PLAIN_TEXT.replace("\nbears ra", "\n\nbears ra"), 3)

    def test_each_place_of_a_blank(self):
        for text in (PLAIN_TEXT, RICH_TEXT):
            for number, line in enumerate(text.split("\n")):
                for place in [0, len(line)] + [place for place, sign in enumerate(line) if sign == " "]:
                    lines = text.split("\n")
                    lines[number] = line[:place] + " " + line[place:]
                    self.refuse("\n".join(lines), number)

    def test_other_signs(self):
        for sign in ("\t", "\r", "\x0b", "\x0c", "\u00a0", "\u2028", "\u0085"):
            self.refuse(PLAIN_TEXT.replace("slot ra", f"slot{sign}ra"), 1)
            self.refuse(PLAIN_TEXT.replace("\nbears rb", f"{sign}bears rb"), 3)
            self.refuse(PLAIN_TEXT + sign, 5)
            self.refuse(PLAIN_TEXT.replace("\n", sign + "\n"), 0)

    def test_forms(self):
        head = "houses a b\n"
        for line in ("slot", "slot ra", "slot ra A", "slot ra a no R", "Slot ra a no row", "slot ra a no=row", "bears ra", "bears =",
                     "bears ra=", "bears =row", "bears ra=row=no", "bears ra = row", "bears ra=row :", "never ra=Row", "lapse",
                     "lapse a", "lapse a ra=no", "lapse : ra=no", "lapse a : : ra=no", "lapse a ra=no : ra", "lapse A : ra=no",
                     "lapse a ra : ra=no", "lapse a :ra=no", "houses", "houses a", "scheme pa put", "say done", "begin pa", "x", ":"):
            self.refuse(head + line, 1)
            self.refuse(head + line + "\nwrong", 1)
            self.refuse(head + "slot ra a no row\n" + line, 2)
        for name in NO_NAMES:
            for line in (f"slot {name} a no row", f"slot ra {name} no row", f"slot ra a no {name}", f"bears {name}=row",
                         f"bears ra={name}", f"lapse {name} : ra=no"):
                self.refuse(head + line, 1)
            self.refuse(f"houses a {name}", 0)

    def test_kinds_in_their_sequence(self):
        lines = ("slot ra a no row", "bears ra=row", "never ra=row", "lapse a : ra=no")
        for one, first in enumerate(lines):
            for other, second in enumerate(lines):
                text = f"houses a\n{first}\n{second}"
                if other < one:
                    self.refuse(text, 2)
                elif (one, other) == (0, 1):
                    self.assertEqual(show_world(read_world(text)), text)
                else:
                    with self.assertRaises(BadWorld):
                        read_world(text)
            self.refuse(first + "\nhouses a", 0)
            self.refuse(f"houses a\n{first}\nhouses a", 2)

    def test_the_first_line_counts(self):
        self.refuse("houses a\nbears ra=row\nslot ra a no row\nslot\nhouses", 2)
        self.refuse("houses a\nslot\nslot ra a no row\nhouses", 1)

    def test_bad_worlds(self):
        for text, value in (
                ("houses", ((), (), (), (), ())),
                ("houses a", (("a",), (), (), (), ())),
                ("houses b a\nslot ra a", (("b", "a"), (("ra", "a", ()),), (), (), ())),
                ("houses a\nslot ra a no row\nbears", (("a",), (("ra", "a", ("no", "row")),), ((),), (), ())),
                ("houses a\nslot ra a no row\nbears ra=row\nnever", (("a",), (("ra", "a", ("no", "row")),), ((("ra", "row"),),),
                                                                    ((),), ())),
                ("houses a\nlapse a :", (("a",), (), (), (), (("a", (), ()),))),
                ("houses a\nlapse b rb=no ra=no : ra=row ra=row", (("a",), (), (), (), (
                    ("b", (("rb", "no"), ("ra", "no")), (("ra", "row"), ("ra", "row"))),)))):
            self.bad_value(lambda: read_world(text), BadWorld, value)

    def test_by_name(self):
        self.assertEqual(read_world(text=PLAIN_TEXT), plain_world())
        self.assertEqual(show_world(world=plain_world()), PLAIN_TEXT)
        for file, names in ((showing, ("show_world", "show_schemes", "show_run", "show_history")),
                            (reading, ("read_world", "read_schemes", "read_run", "read_history"))):
            for name in names:
                self.assertEqual(getattr(file, name).__module__, file.__name__)


class Schemes(TextsCase):
    def refuse(self, text, line, world=None):
        self.bad_text(lambda: read_schemes(plain_world() if world is None else world, text), line)

    def test_both_ways(self):
        for world, schemes, text in ((plain_world(), (PA,), PA_TEXT), (rich_world(), RICH_SCHEMES, RICH_SCHEMES_TEXT)):
            self.assertEqual(show_schemes(world, schemes), text)
            self.assertEqual(read_schemes(world, text), schemes)

    def test_samples_and_by_chance(self):
        for world, schemes in bases():
            self.assertEqual(read_schemes(world, show_schemes(world, schemes)), schemes)
        for seed in range(150):
            chance = random.Random(seed)
            world = chance_world(chance)
            schemes = chance_schemes(chance, world, 3, 12)
            self.assertEqual(read_schemes(world, show_schemes(world, schemes)), schemes)

    def test_the_row_of_the_document(self):
        world = plain_world()
        text = "scheme pa put ra\ndo a ra=no : : mark : 2 1\nsay again\nsay refused"
        self.assertEqual(read_schemes(world, text)[0][3][0], ("do", "a", (("ra", "no"),), (), ("mark",), 2, 1))

    def test_no_string(self):
        for value in (*JUNK, [PA_TEXT], (PA_TEXT,)):
            if not isinstance(value, str):
                self.refuse(value, None)

    def test_empty_lines(self):
        self.refuse("", 0)
        self.refuse("\n", 0)
        self.refuse(PA_TEXT + "\n", 5)
        self.refuse(PA_TEXT.replace("\nsay done", "\n\nsay done"), 3)

    def test_each_place_of_a_blank(self):
        for number, line in enumerate(RICH_SCHEMES_TEXT.split("\n")):
            for place in [0, len(line)] + [place for place, sign in enumerate(line) if sign == " "]:
                lines = RICH_SCHEMES_TEXT.split("\n")
                lines[number] = line[:place] + " " + line[place:]
                self.refuse("\n".join(lines), number)

    def test_a_row_ahead_of_all_schemes(self):
        self.refuse("say done\n" + PA_TEXT, 0)
        self.refuse("do b rb=no : : : 1 3", 0)

    def test_forms(self):
        head = "scheme pa put\n"
        for line in ("scheme", "scheme pa", "scheme pa Put", "scheme Pa put", "scheme pa put ra=no", "scheme pa put :", "say",
                     "say done done", "say Done", "say -", "do", "do b", "do b : : : 1", "do b : : : 1 2 3", "do b : : 1 2",
                     "do b : : : : 1 2", "do : : : 1 2", "do b rb : : : 1 2", "do b : rb : : 1 2", "do b : : Mark : 1 2",
                     "do b : : mark=no : 1 2", "do b rb=no: : : 1 2", "do b : : : : ", "do b : : :1 2", "Do b : : : 1 2",
                     "may 1 do b : : : 1 2", "houses a", "slot ra a no row", "move b : : : 1 2", "do B : : : 1 2", "do b c : : : 1 2"):
            self.refuse(head + line, 1)
            self.refuse(PA_TEXT + "\n" + line, 5)
            self.refuse(PA_TEXT + "\n" + line.replace("do ", "ask ") + "\nwrong", 5)
        for number in NO_NUMBERS:
            self.refuse(head + f"do b : : : {number} 1", 1)
            self.refuse(head + f"ask b : : : 1 {number}", 1)
        for name in NO_NAMES:
            for line in (f"scheme {name} put", f"scheme pa {name}", f"scheme pa put {name}", f"say {name}", f"do {name} : : : 1 2",
                         f"do b {name}=no : : : 1 2", f"do b : rb={name} : : 1 2", f"do b : : {name} : 1 2"):
                self.refuse(head + line, 1)

    def test_bad_schemes(self):
        world = plain_world()
        big = 10 ** 3900 + 7
        for text, value in (
                ("scheme pa put", (("pa", "put", (), ()),)),
                ("scheme pa put\nscheme pa put", (("pa", "put", (), ()), ("pa", "put", (), ()))),
                ("scheme pa sort rb ra\nsay no", (("pa", "sort", ("rb", "ra"), (("say", "no"),)),)),
                (f"scheme pa put\ndo b : : : {big} 0\nsay done", (("pa", "put", (), (("do", "b", (), (), (), big, 0),
                                                                                   ("say", "done"))),)),
                ("scheme pa put\nask c rb=no ra=no : x=y : same mark : 0 1\nsay done", (("pa", "put", (), (
                    ("ask", "c", (("rb", "no"), ("ra", "no")), (("x", "y"),), ("same", "mark"), 0, 1), ("say", "done"))),))):
            self.bad_value(lambda: read_schemes(world, text), BadSchemes, value)

    def test_show_of_any_value(self):
        for value in (*JUNK, PA, (PA, PA), [PA], RICH_SCHEMES):
            with self.assertRaises(BadSchemes) as caught:
                show_schemes(plain_world(), value)
            self.assertIs(caught.exception.value, value)

    def test_by_name(self):
        self.assertEqual(show_schemes(schemes=(PA,), world=plain_world()), PA_TEXT)
        self.assertEqual(read_schemes(text=PA_TEXT, world=plain_world()), (PA,))


class Runs(TextsCase):
    def test_both_ways(self):
        self.assertEqual(show_run(RUN), RUN_TEXT)
        self.assertEqual(read_run(RUN_TEXT), RUN)
        self.assertEqual((show_run(()), read_run("")), ("", ()))
        self.assertEqual((show_run(run=RUN), read_run(text=RUN_TEXT)), (RUN_TEXT, RUN))

    def test_events_that_are_possible_in_no_world(self):
        big = "9" * 3990
        for text in ("step 0", "come 99\nlapse 99999", "begin nobody", f"stay {big}"):
            self.assertEqual(show_run(read_run(text)), text)

    def test_no_string(self):
        for value in (*JUNK, [RUN_TEXT], RUN):
            if not isinstance(value, str):
                self.bad_text(lambda: read_run(value), None)

    def test_bad_lines(self):
        for line in ("", " ", "begin", "begin pa k", "begin PA", "begin 0", "step", "step  0", "step 0 ", " step 0", "step 0 0", "step pa",
                     "Step 0", "fall 0", "back", "lapse k 0", "step\t0", "step 0\r", "say done", *[f"step {one}" for one in NO_NUMBERS],
                     *[f"begin {one}" for one in NO_NAMES], *[f"lapse {one}" for one in NO_NUMBERS]):
            self.bad_text(lambda: read_run("step 0\n" + line), 1)
            self.bad_text(lambda: read_run("step 0\n" + line + "\nbad"), 1)
            if line != "":
                self.bad_text(lambda: read_run(line), 0)
        self.bad_text(lambda: read_run("\n"), 0)
        self.bad_text(lambda: read_run("step 0\n"), 1)

    def test_show_of_any_value(self):
        for value in (*JUNK, [], list(RUN), RUN_TEXT):
            if not isinstance(value, tuple):
                with self.assertRaises(BadRun) as caught:
                    show_run(value)
                self.assertIs(caught.exception.index, None)
        for event in (*JUNK, ("begin",), ["begin", "pa"], ("begin", "Pa"), ("begin", 0), ("begin", None), ("step", -1), ("step", True),
                      ("step", "0"), ("step", None), ("fall", 0), ("lapse", "k", 0), ("step", 0, 0), ("Step", 0), (["step"], 0),
                      ("begin", ["pa"]), ("begin", "abcdefghi"), ("begin", "")):
            for place in range(3):
                with self.assertRaises(BadRun) as caught:
                    show_run(RUN[:place] + (event,) + RUN[place:] + (None,))
                self.assertEqual(caught.exception.index, place)


class Histories(TextsCase):
    def test_both_ways(self):
        self.assertEqual(show_history(MIXED), MIXED_TEXT)
        self.assertEqual(read_history(MIXED_TEXT), MIXED)
        self.assertEqual((show_history(()), read_history("")), ("", ()))
        self.assertEqual(read_history(text=show_history(history=SAMPLE)), SAMPLE)

    def test_by_chance(self):
        for seed in range(100):
            history = chance_history(random.Random(seed), 8)
            self.assertEqual(read_history(show_history(history)), history)

    def test_no_string(self):
        for value in (*JUNK, [MIXED_TEXT], MIXED):
            if not isinstance(value, str):
                self.bad_text(lambda: read_history(value), None)

    def test_bad_lines(self):
        good = ("1", "4", "k", "put", "done")
        lines = ["", " ", "1 4 k put", "1 4 k put done 5", "1  4 k put done", " 1 4 k put done", "1 4 k put done ", "1\t4 k put done",
                 "1 4 k put done\r"]
        for place, others in ((0, NO_NUMBERS), (1, [one for one in NO_NUMBERS if one != "-"]), (2, NO_NAMES), (3, NO_NAMES),
                              (4, [one for one in NO_NAMES if one != "-"])):
            lines.extend(" ".join(changed(good, place, other)) for other in others)
        for line in lines:
            self.bad_text(lambda: read_history("1 4 k put done\n" + line), 1)
            self.bad_text(lambda: read_history("1 4 k put done\n" + line + "\nbad"), 1)
            if line != "":
                self.bad_text(lambda: read_history(line), 0)

    def test_bad_histories(self):
        for text, value in (("0 1 k put done", ((0, 1, "k", "put", "done"),)), ("1 - k put done", ((1, None, "k", "put", "done"),)),
                            ("1 4 k put -", ((1, 4, "k", "put", None),)), ("4 1 k put done", ((4, 1, "k", "put", "done"),)),
                            ("1 2 k move done", ((1, 2, "k", "move", "done"),)), ("1 2 k put none", ((1, 2, "k", "put", "none"),)),
                            ("3 4 k put done\n1 2 k put done", ((3, 4, "k", "put", "done"), (1, 2, "k", "put", "done"))),
                            ("9" * 3900 + " - k put -\n1 - k put -", ((int("9" * 3900), None, "k", "put", None),
                                                                     (1, None, "k", "put", None)))):
            self.bad_value(lambda: read_history(text), BadHistory, value)
        many = "\n".join(f"{2 * number + 1} {2 * number + 2} k look none" for number in range(9))
        with self.assertRaises(BadHistory):
            read_history(many)

    def test_big_times(self):
        text = "1 " + "9" * 3900 + " k put done"
        self.assertEqual(read_history(text), ((1, 10 ** 3900 - 1, "k", "put", "done"),))

    def test_show_of_any_value(self):
        for value in (*JUNK, list(MIXED), MIXED[::-1], MIXED[0]):
            if value != ():
                with self.assertRaises(BadHistory) as caught:
                    show_history(value)
                self.assertIs(caught.exception.value, value)


class Arguments(unittest.TestCase):
    def test_they_stay_as_they_are(self):
        world = plain()
        before = repr((vars(world), PA, RUN, MIXED))
        for _ in range(2):
            self.assertEqual(show_world(world), PLAIN_TEXT)
            self.assertEqual(show_schemes(world, (PA,)), PA_TEXT)
            self.assertEqual(show_run(RUN), RUN_TEXT)
            self.assertEqual(show_history(MIXED), MIXED_TEXT)
        self.assertEqual(repr((vars(world), PA, RUN, MIXED)), before)
