"""The whole program: the guarantees, arguments by name, and what was read back from texts."""

import itertools
import random
import unittest

from tests.making import (ask, bases, claiming_put, claims, do, drop, honest_look, looking_put, marking_put, plain, say, scheme)
from tests.plain_histories import plain_doubts, plain_orders, plain_sure
from tests.plain_plans import carried_out, chance_task, plain_heights
from tests.test_towns import asked_of
from unlikekeys import errors
from unlikekeys.barring import barred, barred_stands
from unlikekeys.cases import is_case, is_within, led
from unlikekeys.changes import planned, shows_planned
from unlikekeys.desk import Desk
from unlikekeys.doubts import doubts, sure
from unlikekeys.errors import NothingToUndo
from unlikekeys.histories import is_history
from unlikekeys.judging import comes, judged
from unlikekeys.mending import chosen, mended, shows_mended
from unlikekeys.orders import closed, explained, shows_closed, shows_order
from unlikekeys.own import own
from unlikekeys.reading import read_history, read_run, read_schemes, read_world
from unlikekeys.runs import is_run, played
from unlikekeys.schemes import is_schemes
from unlikekeys.showing import show_history, show_run, show_schemes, show_world
from unlikekeys.tables import shows_comes, shows_never, shows_right, shows_wrong
from unlikekeys.towns import Town
from unlikekeys.worlds import World

PA = looking_put("pa", "a", "b")
PB = looking_put("pb", "b", "a")
KEYS = ("k", "l", "m")

RIGHT = tuple((world, schemes) for world, schemes in (
    (plain(), (PA,)),
    (plain(), (looking_put("pa", "a", "b", "ask", "kept"), honest_look("l"))),
    (plain(), (marking_put("pa", "a", "b"), marking_put("pb", "b", "a"), drop("da", "a"))),
    (plain(), (marking_put("pa", "a", "b"), marking_put("pb", "b", "a"))),
    (plain(), (marking_put("pa", "a", "b"), honest_look("l"), drop("da", "a"))),
    (claims(()), (claiming_put("pa", "a", "b"), claiming_put("pb", "b", "a"))),
    (claims(()), (claiming_put("pa", "a", "b", "ask", "kept"), claiming_put("pb", "b", "a", "ask", "kept"))),
    own(("x", "y")),
) if judged(world, schemes)[0] == "right")


def wrong_bases():
    return [(world, schemes, judged(world, schemes)) for world, schemes in bases() if judged(world, schemes)[0] == "wrong"]


def chance_play(chance, world, schemes, many, most=8):
    """A town by chance, and for each event (key, whether a row stands behind it at each key)."""
    town, events = Town(world, schemes), []
    while len(events) < many:
        word = chance.choice(("begin", "step", "step", "step", "step", "stay", "leave", "come", "lapse", "fall"))
        try:
            if word == "begin":
                key = chance.choice(KEYS)
                if len([record for record in town.history() if record[2] == key]) >= most:
                    key = chance.choice("uvw")
                    if town.run(key):
                        word = "step"
            if word == "begin":
                town.begin(chance.choice(schemes)[0], key)
            elif word == "lapse":
                key = chance.choice(KEYS)
                town.lapse(key, chance.randrange(max(1, len(world.lapses))))
            elif word == "fall":
                if chance.random() < 0.2:
                    town.fall(chance.randrange(20))
                continue
            else:
                number = chance.randrange(20)
                getattr(town, word)(number)
                key = None
        except errors.UnlikeError:
            events.append(None)
            continue
        events.append((town.time, {one: town.has_row(one) for one in town.known}))
    return town, {0: {}, **dict(event for event in events if event is not None)}


def keys_of_events(town):
    """The key of each event, by its time."""
    town, keys = town.copy(), {}
    while True:
        before = {key: len(town.run(key)) for key in town.known}
        time = town.time
        try:
            town.back()
        except NothingToUndo:
            return keys
        for key, many in before.items():
            if len(town.run(key)) < many:
                keys[time] = key


def order_by_moments(town, rows):
    """The records in the sequence of the moments of the town's puts and drops, the others where their answer is true.

    The event with time t is laid at t - 1/2.
    """
    keys = keys_of_events(town)
    made = {}
    for key in town.known:
        times = sorted(time for time, one in keys.items() if one == key)
        begun = [times[index] for index, event in enumerate(town.run(key)) if event[0] == "begin"]
        for index, _, doer in played(town.world, town.schemes, town.run(key)).moments:
            made[begun[doer]] = times[index] - 0.5
    laid = []
    for number, (begin, end, key, _, answer) in enumerate(town.history()):
        if begin in made:
            laid.append((made[begin], number))
        elif end is not None and answer != "again":
            wanted = answer in ("refused", "there")
            fits = [time for time in range(begin, end + 1) if rows[time].get(key, False) == wanted]
            laid.append((fits[0] + 0.25 if fits[0] < end else end - 0.25, number))
    return tuple(number for _, number in sorted(laid))


class Guarantees(unittest.TestCase):
    def test_a_all_numbers(self):
        """Right schemes go right with any number of doers, in any number of keys, whoever falls."""
        self.assertGreater(len(RIGHT), 5)
        for world, schemes in RIGHT:
            for seed in range(12):
                town, _ = chance_play(random.Random(f"a {seed}"), world, schemes, 150)
                self.assertEqual(town.wrongs, ())
                for key in town.known:
                    self.assertIs(played(world, schemes, town.run(key)).wrong, None)
                    self.assertIs(world.is_broken(town.stand(key)), False)

    def test_b_both_ways(self):
        """Each answer of judged and comes is shown by its own paper, and by none of the other kind."""
        for world, schemes in bases():
            found = judged(world, schemes)
            if found[0] == "right":
                self.assertIs(shows_right(world, schemes, found[1]), True)
                self.assertIs(shows_right(world, schemes, found[1][1:]), found[1] == ())
                self.assertIs(shows_wrong(world, schemes, (("begin", schemes[0][0]), ("step", 0)), ()), False)
            else:
                _, run, layers = found
                self.assertIs(shows_wrong(world, schemes, run, layers), True)
                self.assertIs(shows_wrong(world, schemes, run, layers[1:]), layers == ())
                self.assertIs(shows_right(world, schemes, ()), False)
                self.assertEqual(played(world, schemes, run).wrong[0], len(run) - 1)

    def test_c_as_one_table(self):
        """Right schemes write histories that one table explains by the moments of their puts and drops."""
        longest = 0
        for world, schemes in RIGHT:
            for seed in range(25):
                town, rows = chance_play(random.Random(f"c {seed}"), world, schemes, 90)
                history = town.history()
                if not is_history(history):
                    continue
                longest = max(longest, len(history))
                order = order_by_moments(town, rows)
                self.assertIs(shows_order(history, order), True, (history, order))
                self.assertIsNot(explained(history), None)
                self.assertEqual(doubts(history), ())
                for key in town.known:
                    self.assertIs(closed(history, key), None)
                    for time, stood in rows.items():
                        self.assertIn(sure(history, key, time), (stood.get(key, False), None))
        self.assertGreater(longest, 8)

    def test_c_a_wrong_run_in_a_town(self):
        """A run that is told as wrong is wrong in a town, by its last event."""
        found = wrong_bases()
        self.assertGreater(len(found), 5)
        for world, schemes, (_, run, _) in found:
            town = Town(world, schemes)
            for word, which in run:
                self.assertEqual(town.wrongs, ())
                if word == "begin":
                    town.begin(which, "k")
                elif word == "lapse":
                    town.lapse("k", which)
                else:
                    getattr(town, word)(which)
            self.assertEqual(town.wrongs, ((len(run), "k", played(world, schemes, run).wrong[1]),))
            self.assertEqual(town.run("k"), run)

    def test_d_cheapest(self):
        """Only the set that mended tells is good among all that are as cheap; it goes right in a town."""
        first, second, third, *says = marking_put("pa", "a", "b")[3]
        one = ("pa", "put", ("ra",), (first, ("may", 1, second), third, *says))
        first, second, third, *says = marking_put("pb", "b", "a")[3]
        other = ("pb", "put", ("rb",), (first, ("may", 2, second), third, *says))
        world, offer, prices = plain(), (one, other), ((1, 3), (2, 4))
        price, options, table, nevers, papers = mended(world, offer, prices, free=("pa", "pb"))
        self.assertEqual((price, options, len(nevers), len(papers)), (7, (1, 2), 2, 3))
        for cheaper, (word, run, layers) in papers:
            schemes = chosen(world, offer, cheaper)
            self.assertEqual(word, "wrong")
            self.assertIs(shows_wrong(world, schemes, run, layers), True)
            desk = Desk(show_world(world), show_schemes(world, schemes))
            self.assertEqual(desk.say("judge").split(" ")[0], "wrong")
        schemes = chosen(world, offer, options)
        self.assertIs(shows_right(world, schemes, table), True)
        town, _ = chance_play(random.Random(1), world, schemes, 150)
        self.assertEqual(town.wrongs, ())
        self.assertIs(shows_mended(world, offer, prices, (price, options, table, nevers, papers), free=("pa", "pb")), True)

    def test_e_histories(self):
        """explained, doubts and sure are exact for what towns write, right or wrong, and for some that nobody wrote."""
        told = [0, 0]
        for seed in range(120):
            chance = random.Random(f"e {seed}")
            world, schemes = chance.choice((*RIGHT, *bases()))
            town, _ = chance_play(chance, world, schemes, 60, 3)
            history = tuple(record for record in town.history() if record[2] in ("k", "l"))[:5]
            done = [number for number, record in enumerate(history) if record[4] == "done"]
            if chance.random() < 0.5 and done:
                number = chance.choice(done)
                answer = {"put": "refused", "drop": "none"}[history[number][3]]
                history = (*history[:number], (*history[number][:4], answer), *history[number + 1:])
            orders = plain_orders(history)
            told[orders == []] += 1
            self.assertEqual(explained(history) in orders, orders != [])
            self.assertEqual(doubts(history), plain_doubts(history))
            if orders:
                for time in range(town.time + 2):
                    self.assertIs(sure(history, "k", time), plain_sure(history, "k", time))
        self.assertGreater(min(told), 5)

    def test_f_own(self):
        """Own schemes are right and not barred, also behind a desk."""
        for houses in (("a", "b"), ("a", "b", "c")):
            world, schemes = own(houses)
            self.assertEqual(judged(world, schemes)[0], "right")
            desk = Desk(show_world(world), show_schemes(world, schemes))
            self.assertEqual(desk.say("judge"), f"right {len(judged(world, schemes)[1])}")
            for number, one in enumerate(schemes):
                self.assertEqual(barred(world, schemes, one[0])[0], "never")
                self.assertEqual(desk.say(f"barred {one[0]}"), "no")
                self.assertEqual(desk.say(f"begin {one[0]} k"), str(number))
            # All begin, and all but the last fall amid their deed.
            for number in range(len(schemes) - 1):
                desk.say(f"step {number}")
                desk.say(f"fall {number}")
            answer = "on"
            while answer == "on":
                answer = desk.say(f"step {len(schemes) - 1}")
            self.assertEqual((answer, desk.say("row k"), desk.say("wrongs")), ("done", "yes", "-"))

    def test_g_plans(self):
        """Plans are as short as a plain search finds, and no two rows have one key behind any visit."""
        for seed in range(80):
            rows, deed = chance_task(random.Random(f"g {seed}"), 5)
            visits, lent, plan, heights = planned(rows, deed)
            self.assertEqual((visits, lent), plain_heights(rows, deed)[("old",) * len(deed)])
            self.assertEqual((len(plan), carried_out(self, rows, deed, plan)), (visits, lent))
            self.assertIs(shows_planned(rows, deed, (visits, lent, plan, heights)), True)

    def test_h_texts_and_undo(self):
        """All is read back; a town that took back what it was told, or tried it, is as it was."""
        for seed in range(40):
            chance = random.Random(f"h {seed}")
            world, schemes = chance.choice(bases())
            town, _ = chance_play(chance, world, schemes, 40)
            self.assertEqual(read_world(show_world(world)), world)
            self.assertEqual(read_schemes(world, show_schemes(world, schemes)), schemes)
            for key in (*town.known, "zz"):
                self.assertEqual(read_run(show_run(town.run(key))), town.run(key))
            if is_history(town.history()):
                self.assertEqual(read_history(show_history(town.history())), town.history())
            before, twin, falls = asked_of(town, KEYS), town.copy(), 0
            with town.trial():
                for _ in range(chance.randrange(12)):
                    town.begin(schemes[0][0], "k") if chance.random() < 0.5 else town.back() if town.known else None
            self.assertEqual((asked_of(town, KEYS), town == twin), (before, True))
            town.tried(lambda one: one.begin(schemes[0][0], "zz"))
            for _ in range(10):
                town.begin(schemes[0][0], "zz")
                falls += 1
            for _ in range(falls):
                town.back()
            self.assertEqual((asked_of(town, KEYS), town == twin), (before, True))


class ReadBack(unittest.TestCase):
    """What was read back tells the same as what was written, by all functions."""

    def told_by(self, world, schemes, run, history):
        found = judged(world, schemes)
        case = (world.first, (), ())
        name = schemes[0][0]
        town = Town(world, schemes)
        town.begin(name, "k")
        town.step(0)
        town.begin(name, "k")
        told = [vars(world), is_schemes(world, schemes), is_run(world, schemes, run), found, is_case(world, schemes, case),
                led(world, schemes, case), comes(world, schemes, world.stands[1:2]), barred(world, schemes, name),
                barred_stands(world, schemes, name), asked_of(town, KEYS), explained(history), doubts(history),
                closed(history, "k"), shows_order(history, (0,))]
        if found[0] == "right":
            told.append(shows_right(world, schemes, found[1]))
        else:
            told.append(shows_wrong(world, schemes, found[1], found[2]))
        if is_run(world, schemes, run):
            told.append(vars(played(world, schemes, run)))
        if explained(history) is not None:
            told.append([sure(history, "k", time) for time in range(12)])
        return repr(told)

    def test_each(self):
        for seed, (world, schemes) in enumerate(bases()):
            if world.lapses and len(schemes) > 1:
                continue
            chance = random.Random(seed)
            town, _ = chance_play(chance, world, schemes, 30, 4)
            run, history = town.run("k"), town.history()
            again = read_world(show_world(world))
            self.assertEqual(self.told_by(world, schemes, run, history), self.told_by(
                again, read_schemes(again, show_schemes(world, schemes)), read_run(show_run(run)), read_history(show_history(history))))


class ByName(unittest.TestCase):
    """All functions and classes by the names of their arguments, in another order."""

    def same(self, call, *values, **more):
        """The same is returned in whatever sequence the arguments are named."""
        names = call.__code__.co_varnames[:call.__code__.co_argcount]
        names = [name for name in names if name != "self"]
        self.assertEqual(len(names), len(values))
        expected = repr(call(*values, **more))
        for turned in itertools.permutations(zip(names, values)):
            self.assertEqual(repr(call(**dict(turned), **more)), expected)

    def names(self, call, text):
        self.assertEqual([name for name in call.__code__.co_varnames[:call.__code__.co_argcount + call.__code__.co_kwonlyargcount]
                          if name != "self"], text.split())

    def test_names(self):
        for call, text in (
                (World.__init__, "houses slots bears never lapses"), (World.is_pattern, "value"), (World.is_stand, "value"),
                (World.holds, "pattern stand"), (World.made, "stand pattern"), (World.has_row, "stand"), (World.is_broken, "stand"),
                (is_schemes, "world value"), (is_run, "world schemes value"), (played, "world schemes run"),
                (is_case, "world schemes value"), (is_within, "one other"), (led, "world schemes case"), (judged, "world schemes"),
                (comes, "world schemes stands"), (shows_right, "world schemes table"), (shows_wrong, "world schemes run layers"),
                (shows_comes, "world schemes stands run layers"), (shows_never, "world schemes stands table"),
                (barred_stands, "world schemes name"), (barred, "world schemes name"), (chosen, "world offer options"),
                (mended, "world offer prices free"), (shows_mended, "world offer prices value free"), (own, "houses"),
                (Town.__init__, "world schemes"), (Town.begin, "scheme key"), (Town.step, "doer"), (Town.stay, "doer"),
                (Town.leave, "doer"), (Town.come, "letter"), (Town.lapse, "key number"), (Town.fall, "doer"), (Town.stand, "key"),
                (Town.has_row, "key"), (Town.doer, "number"), (Town.letter, "number"), (Town.history, ""), (Town.run, "key"),
                (Town.back, ""), (Town.copy, ""), (Town.trial, ""), (Town.tried, "deed keep"), (is_history, "value"),
                (explained, "history"), (shows_order, "history value"), (closed, "history key"), (shows_closed, "history key value"),
                (doubts, "history"), (sure, "history key time"), (planned, "rows deed"), (shows_planned, "rows deed value"),
                (show_world, "world"), (show_schemes, "world schemes"), (show_run, "run"), (show_history, "history"),
                (read_world, "text"), (read_schemes, "world text"), (read_run, "text"), (read_history, "text"),
                (Desk.__init__, "world_text schemes_text"), (Desk.say, "line")):
            self.names(call, text)

    def test_in_another_order(self):
        world, schemes = plain(), (PA,)
        run = (("begin", "pa"), ("step", 0))
        history = ((1, 2, "k", "put", "done"), (3, 4, "k", "put", "done"))
        table, case = judged(world, schemes)[1], (world.first, (), ())
        _, wrong_run, layers = judged(world, (PA, PB))
        _, come_run, come_layers = comes(world, schemes, (("row", "no"),))
        deed, rows = (("x", "two"), ("y", "one")), (("x", "a", "one"), ("y", "b", "two"))
        first, second, *says = PA[3]
        offer = (("pa", "put", (), (first, ("may", 1, second), *says)),)
        for call, *values in (
                (is_schemes, world, schemes), (is_run, world, schemes, run), (is_case, world, schemes, case), (is_within, case, case),
                (led, world, schemes, case), (judged, world, schemes), (comes, world, schemes, (("row", "no"),)),
                (shows_right, world, schemes, table), (shows_wrong, world, (PA, PB), wrong_run, layers),
                (shows_comes, world, schemes, (("row", "no"),), come_run, come_layers), (shows_never, world, schemes, (), ()),
                (barred_stands, world, schemes, "pa"), (barred, world, schemes, "pa"), (chosen, world, offer, (1,)),
                (explained, history), (shows_order, history, ()), (closed, history, "k"),
                (shows_closed, history, "k", closed(history, "k")), (doubts, history), (sure, (), "k", 3), (is_history, history),
                (planned, rows, deed), (shows_planned, rows, deed, planned(rows, deed)), (show_world, world),
                (show_schemes, world, schemes), (show_run, run), (show_history, history), (read_run, show_run(run)),
                (read_schemes, world, show_schemes(world, schemes)), (read_history, show_history(history))):
            self.same(call, *values)
        self.assertEqual(played(run=run, world=world, schemes=schemes), played(world, schemes, run))
        self.assertEqual(own(houses=("a", "c")), own(("a", "c")))
        self.assertEqual(read_world(text=show_world(world)), world)
        self.same(mended, world, offer, ((1, 5),), free=("pa",))
        self.same(shows_mended, world, offer, ((1, 5),), mended(world, offer, ((1, 5),), free=("pa",)), free=("pa",))
        self.assertEqual(Town(schemes=schemes, world=world), Town(world, schemes))
        self.assertEqual(Desk(schemes_text=show_schemes(world, schemes), world_text=show_world(world)).town, Town(world, schemes))
        self.assertEqual(World(lapses=(), never=world.never, bears=world.bears, slots=world.slots, houses=world.houses), world)

    def test_equal_calls_have_equal_results(self):
        for world, schemes in bases()[:6]:
            self.assertEqual(judged(world, schemes), judged(world, schemes))
            self.assertEqual(barred(world, schemes, schemes[0][0]), barred(world, schemes, schemes[0][0]))
        self.assertEqual(own(("a", "b")), own(("a", "b")))
        history = ((1, 4, "k", "put", "done"), (2, 3, "k", "look", "none"), (5, 6, "k", "put", "refused"))
        self.assertEqual(explained(history), explained(history))
        late = (scheme("p", "put", ask("a", "ra=no", "ra=row", 1, 1, "late"), do("b", "", "", 2, 2), say("again")),)
        towns = [Town(plain(), late) for _ in range(2)]
        for town in towns:
            town.begin("p", "k")
            town.leave(0)
        self.assertEqual(towns[0], towns[1])
        self.assertEqual(asked_of(towns[0], KEYS), asked_of(towns[1], KEYS))

    def test_errors(self):
        for name, error in vars(errors).items():
            if isinstance(error, type) and name != "UnlikeError":
                self.assertEqual(error.__bases__, (errors.UnlikeError,))
        self.assertEqual(errors.UnlikeError.__bases__, (ValueError,))
