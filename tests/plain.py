"""The document's sections 5 to 8 once more, as plainly and as slowly as they can be written: what tests compare with.

Nothing here is taken from the package; a world is told by its five values (they stand in its attributes).
"""

import itertools

SEENS = ("none", "row", "both", "made")


class Scene:
    """A stand, and actors: lists [scheme, row, marked, how], ["ended", answer], or None for a letter that came."""

    def __init__(self, world, schemes, stand, actors):
        self.world = world
        self.schemes = {scheme[0]: scheme for scheme in schemes}
        self.words = dict(zip([slot[0] for slot in world.slots], stand))
        self.actors = actors

    def stand(self):
        return tuple(self.words[slot[0]] for slot in self.world.slots)

    def holds(self, pattern):
        return all(self.words[slot] == word for slot, word in pattern)

    def has_row(self):
        return any(self.holds(pattern) for pattern in self.world.bears)

    def is_broken(self):
        return any(self.holds(pattern) for pattern in self.world.never)

    def make(self, pattern):
        for slot, word in pattern:
            self.words[slot] = word
            for actor in self.actors:
                if actor is not None and len(actor) == 4 and slot in self.schemes[actor[0]][2]:
                    actor[2] = False

    def go(self, actor, number):
        row = self.schemes[actor[0]][3][number]
        if row[0] == "say":
            actor[:] = ["ended", row[1]]
        else:
            actor[1], actor[3] = number, "here"

    def can_be_done(self, actor):
        row = self.schemes[actor[0]][3][actor[1]]
        return self.holds(row[2]) and ("same" not in row[4] or actor[2])

    def step(self, actor):
        row = self.schemes[actor[0]][3][actor[1]]
        if actor[3] in ("then", "other"):
            self.go(actor, row[5] if actor[3] == "then" else row[6])
        elif actor[3] != "here":
            return False
        elif self.can_be_done(actor):
            self.make(row[3])
            if "mark" in row[4]:
                actor[2] = True
            self.go(actor, row[5])
        else:
            self.go(actor, row[6])
        return True

    def stay(self, actor):
        row = self.schemes[actor[0]][3][actor[1]]
        done = self.can_be_done(actor)
        if row[0] != "ask" or actor[3] != "here":
            return False
        if "kept" not in row[4] and (not done or row[3] == ()):
            return False
        if done:
            self.make(row[3])
        if "kept" in row[4]:
            actor[3] = "then" if done else "other"
        return True

    def leave(self, actor):
        row = self.schemes[actor[0]][3][actor[1]]
        if row[0] != "ask" or actor[3] != "here" or "late" not in row[4]:
            return False
        self.actors.append([actor[0], actor[1], actor[2], "letter"])
        self.go(actor, row[6])
        return True

    def come(self, at):
        letter = self.actors[at]
        if letter is None or letter[3] != "letter":
            return False
        done = self.can_be_done(letter)
        self.actors[at] = None
        if done:
            self.make(self.schemes[letter[0]][3][letter[1]][3])
        return True

    def lapse(self, number):
        _, needs, makes = self.world.lapses[number]
        if not self.holds(needs):
            return False
        self.make(makes)
        return True

    def act(self, word, at):
        """An event of the actor at this place, or a lapse; False if it is not possible."""
        if word == "lapse":
            return self.lapse(at)
        if word == "come":
            return self.come(at)
        actor = self.actors[at]
        if actor is None or len(actor) == 2:
            return False
        return getattr(self, word)(actor)


def answer_is_right(sort, answer, made, rows):
    """rows: whether a row stood, at each stand behind the begin and behind each later event."""
    if sort == "move":
        return True
    if answer == "done":
        return made
    if made:
        return False
    if answer in ("refused", "there"):
        return any(rows)
    if answer == "none":
        return not all(rows)
    return True


class PlainPlay:
    """A run that is taken event by event."""

    def __init__(self, world, schemes):
        self.scene = Scene(world, schemes, tuple(slot[2][0] for slot in world.slots), [])
        self.doers, self.letters, self.moments, self.stands, self.words = [], [], [], [], []
        self.wrong = None
        self.rows = {}
        self.made = {}

    def take(self, index, event):
        """False if the event is not possible; its form is right."""
        word, which = event
        scene = self.scene
        ahead = scene.has_row()
        doer = None
        if word == "begin":
            if which not in scene.schemes:
                return False
            self.doers.append([which, 0, False, "here"])
            scene.actors.append(self.doers[-1])
            self.rows[len(self.doers) - 1] = []
        elif word == "lapse":
            if which >= len(scene.world.lapses) or not scene.act("lapse", which):
                return False
        elif word == "come":
            if which >= len(self.letters) or not scene.act("come", self.letters[which]):
                return False
        else:
            if which >= len(self.doers) or len(self.doers[which]) == 2:
                return False
            doer = which
            sort = scene.schemes[self.doers[which][0]][1]
            at = [place for place, actor in enumerate(scene.actors) if actor is self.doers[which]][0]
            if not scene.act(word, at):
                return False
            if word == "leave":
                self.letters.append(len(scene.actors) - 1)
        self.note(index, doer, sort if doer is not None else None, ahead, scene.has_row())
        return True

    def note(self, index, doer, sort, ahead, behind):
        for rows in self.rows.values():
            rows.append(behind)
        word = None
        moment = None if ahead == behind else "put" if behind else "drop"
        if moment:
            self.moments.append((index, moment, doer))
            if doer is None or sort != moment or doer in self.made:
                word = "moment"
            else:
                self.made[doer] = True
        if word is None and doer is not None and len(self.doers[doer]) == 2:
            if not answer_is_right(sort, self.doers[doer][1], doer in self.made, self.rows[doer]):
                word = "answer"
        if self.scene.is_broken():
            word = "never"
        if word and self.wrong is None:
            self.wrong = (index, word)
        self.stands.append(self.scene.stand())
        self.words.append(word)

    def told(self):
        letters = tuple(None if self.scene.actors[at] is None else tuple(self.scene.actors[at]) for at in self.letters)
        return (self.scene.stand(), tuple(tuple(doer) for doer in self.doers), letters, tuple(self.moments), self.wrong)


def plain_played(world, schemes, run):
    """(last stand, doers, letters, moments, wrong), or the index of the first event that is not possible."""
    play = PlainPlay(world, schemes)
    for index, event in enumerate(run):
        if not play.take(index, event):
            return index
    return play.told()


def plain_possible(world, schemes):
    """All possible descriptions, and those with which seen may be "made"."""
    bearing = {slot for pattern in world.bears for slot, _ in pattern}
    found = {(scheme[0], 0, False, "here") for scheme in schemes}
    made = set()
    while True:
        more, more_made = set(), set()
        for who in found:
            for behind, makes in plain_behind(schemes, who):
                more.add(behind)
                sort = [scheme[1] for scheme in schemes if scheme[0] == who[0]][0]
                if who in made or (sort in ("put", "drop") and bearing & {slot for slot, _ in makes}):
                    more_made.add(behind)
        if more <= found and more_made <= made:
            return found, made
        found |= more
        made |= more_made


def plain_behind(schemes, who):
    """All (description, what is made): what is possible by one more of the document's rules."""
    name, number, marked, how = who
    scheme = [scheme for scheme in schemes if scheme[0] == name][0]
    rows = scheme[3]
    yield (name, number, False, how), ()
    if how == "letter":
        return
    word, _, _, makes, flags, then, other = rows[number]
    less = marked and not any(slot in scheme[2] for slot, _ in makes)
    may = marked or "same" not in flags
    goals = []
    if how == "here":
        if may:
            goals.append((then, "mark" in flags or less, makes))
        goals.append((other, marked, ()))
        if word == "ask" and "kept" not in flags and makes != () and may:
            yield (name, number, less, "here"), makes
        if word == "ask" and "kept" in flags:
            if may:
                yield (name, number, less, "then"), makes
            yield (name, number, marked, "other"), ()
        if word == "ask" and "late" in flags:
            goals.append((other, marked, ()))
            yield (name, number, marked, "letter"), ()
    else:
        goals.append((then if how == "then" else other, marked, ()))
    for goal, mark, made in goals:
        if rows[goal][0] != "say":
            yield (name, goal, mark, "here"), made


def plain_within(one, other):
    def fits(small, large):
        return all(small.count(who) <= large.count(who) for who in small)

    if one[0] != other[0]:
        return False
    if one[1] == other[1] and fits(one[2], other[2]):
        return True
    extra = () if other[1] == () or other[1][1:4] == (0, False, "here") else (other[1][:4],)
    return one[1] == () and fits(one[2], other[2] + extra)


def plain_led(world, schemes, case):
    """All (event, word, behind), ascending."""
    stand, hero, others = case
    fresh = [(scheme[0], 0, False, "here") for scheme in schemes]
    found = []
    events = [("lapse", number) for number in range(len(world.lapses))]
    events += [(word, who) for who in {*others, *fresh} for word in ("step", "stay", "leave", "come")]
    if hero:
        events += [(word, ()) for word in ("step", "stay", "leave")]
    else:
        events += [("begin", scheme[0]) for scheme in schemes]
    for event in events:
        step = plain_led_by(world, schemes, case, event)
        if step is not None:
            found.append((event, *step))
    return tuple(sorted(found))


def plain_led_by(world, schemes, case, event):
    """(word, behind), None if the event is not possible."""
    stand, hero, others = case
    word, who = event
    people = [list(other) for other in others]
    hero_actor = list(hero[:4]) if hero else None
    scene = Scene(world, schemes, stand, people + ([hero_actor] if hero else []))
    row = scene.has_row()
    if word == "begin":
        if scene.is_broken():
            return "never", ()
        return "", (stand, (who, 0, False, "here", "row" if row else "none"), others)
    if word == "lapse":
        at = who
    elif who == ():
        at = len(people)
    elif who in others:
        at = others.index(who)
    else:
        scene.actors.append(list(who))
        at = len(scene.actors) - 1
    if not scene.act(word, at):
        return None
    behind_row = scene.has_row()
    moment = "" if row == behind_row else "put" if behind_row else "drop"
    seen = hero[4] if hero else ""
    sort = scene.schemes[hero[0]][1] if hero else ""
    if who == () and moment and moment == sort:
        wrong = "moment" if seen == "made" else ""
        seen = "made"
    else:
        wrong = "moment" if moment and (who == () or word in ("come", "lapse")) else ""
        seen = "both" if (seen, behind_row) in (("none", True), ("row", False)) else seen
    if not wrong and who == () and len(hero_actor) == 2:
        rows = {"none": [False], "row": [True], "both": [True, False], "made": [True, False]}[seen]
        wrong = "" if answer_is_right(sort, hero_actor[1], seen == "made", rows) else "answer"
    if scene.is_broken():
        wrong = "never"
    if wrong:
        return wrong, ()
    crowd = [tuple(actor) for actor in scene.actors
             if actor is not None and len(actor) == 4 and actor is not hero_actor]
    crowd = tuple(sorted(one for one in crowd if one[1:] != (0, False, "here")))
    return "", (scene.stand(), (*hero_actor, seen) if hero and len(hero_actor) == 4 else (), crowd)


def plain_cases(world, schemes, most, heroes=True):
    """All cases with at most so many others."""
    possible, made = plain_possible(world, schemes)
    crowd = sorted(who for who in possible if who[1:] != (0, False, "here"))
    for stand in world.stands:
        row = Scene(world, schemes, stand, []).has_row()
        some = [()]
        if heroes:
            some += [(*who, seen) for who in possible if who[3] != "letter" for seen in SEENS
                     if seen != ("none" if row else "row") and (seen != "made" or who in made)]
        for many in range(most + 1):
            for others in itertools.combinations_with_replacement(crowd, many):
                for hero in some:
                    yield (stand, hero, others)


def least_of(cases):
    """Those that no other one is within."""
    cases = list(dict.fromkeys(cases))
    return tuple(sorted(case for case in cases
                        if not any(plain_within(other, case) for other in cases if other != case)))


def plain_layers(world, schemes, most, stands=None):
    """All layers, then the table of all least bad cases, looking at cases with at most so many others."""
    cases = list(plain_cases(world, schemes, most, stands is None))
    steps = {case: plain_led(world, schemes, case) if stands is None else plain_led_all(world, schemes, case)
             for case in cases}
    layers, bad = [], []

    def above(case, members):
        return any(plain_within(member, case) for member in members)

    def goes_on(case, layer):
        if layer:
            return any(step[2] != () and above(step[2], layer) for step in steps[case] if step[0][0] != "begin")
        if stands is None:
            return any(step[1] for step in steps[case])
        return case[0] in stands or any(step[2][0] in stands for step in steps[case])

    while True:
        last = layers[-1] if layers else ()
        now = {case for case in cases if not above(case, bad) and goes_on(case, last)}
        begun = {case for case in cases if not above(case, bad) and any(
            step[0][0] == "begin" and step[2] in now for step in steps[case])}
        new = least_of(now | begun)
        if not new:
            return layers, least_of(bad)
        layers.append(new)
        bad += new


def plain_led_all(world, schemes, case):
    """The same without heroes; wrong events lead on as others."""
    class Sound:
        houses, slots, bears, never, lapses = world.houses, world.slots, (), (), world.lapses

    return [step for step in plain_led(Sound, schemes, case) if step[0][0] != "begin"]


def plain_is_table(world, schemes, table, stands=None):
    """Whether a tuple of cases is a table, by the document's words; it looks at one other more than the members have."""
    if any(not low < high for low, high in zip(table, table[1:])):
        return False
    if any(plain_within(one, other) for one in table for other in table if one != other):
        return False
    if any(plain_within(member, (world.first, (), ())) for member in table):
        return False
    most = max([len(others) for _, _, others in table], default=0) + 1
    for case in plain_cases(world, schemes, most, stands is None):
        if any(plain_within(member, case) for member in table):
            continue
        steps = plain_led(world, schemes, case) if stands is None else plain_led_all(world, schemes, case)
        reached = any(word for _, word, _ in steps) if stands is None else (
            case[0] in stands or any(behind[0] in stands for _, _, behind in steps))
        if reached or any(plain_within(member, behind) for _, word, behind in steps if not word for member in table):
            return False
    return True


class Crew:
    """All doers of a run at once: states are (stand, doers with what they saw, letters)."""

    def __init__(self, world, schemes, most_doers):
        self.world = world
        self.schemes = schemes
        self.most_doers = most_doers

    def first(self):
        return (self.world.first, (), ())

    def begun(self, states):
        """These states, and those behind further begins."""
        known = dict.fromkeys(states)
        waiting = list(known)
        while waiting:
            stand, doers, letters = waiting.pop()
            if len(doers) < self.most_doers:
                seen = "row" if Scene(self.world, self.schemes, stand, []).has_row() else "none"
                for scheme in self.schemes:
                    more = (stand, tuple(sorted((*doers, (scheme[0], 0, False, "here", seen)))), letters)
                    if more not in known:
                        known[more] = None
                        waiting.append(more)
        return list(known)

    def behind(self, state):
        """All (wrong or not, state) behind an event but begin."""
        stand, doers, letters = state
        events = [("lapse", number) for number in range(len(self.world.lapses))]
        events += [(word, at) for at in range(len(doers)) for word in ("step", "stay", "leave")]
        events += [("come", len(doers) + at) for at in range(len(letters))]
        for word, at in events:
            scene = Scene(self.world, self.schemes, stand, [list(doer[:4]) for doer in doers] + [list(one) for one in letters])
            row = scene.has_row()
            if scene.act(word, at):
                yield self.after(scene, word, at, row, doers)

    def after(self, scene, word, at, row, doers):
        behind = scene.has_row()
        moment = "" if row == behind else "put" if behind else "drop"
        seens = ["both" if (doer[4], behind) in (("none", True), ("row", False)) else doer[4] for doer in doers]
        wrong = scene.is_broken()
        if word in ("lapse", "come"):
            wrong = wrong or moment != ""
        else:
            sort = scene.schemes[doers[at][0]][1]
            if moment == sort:
                wrong = wrong or doers[at][4] == "made"
                seens[at] = "made"
            elif moment:
                wrong = True
            if len(scene.actors[at]) == 2:
                rows = {"none": [False], "row": [True]}.get(seens[at], [True, False])
                wrong = wrong or not answer_is_right(sort, scene.actors[at][1], seens[at] == "made", rows)
        left = scene.actors[:len(doers)]
        crew = tuple(sorted((*actor, seen) for actor, seen in zip(left, seens) if len(actor) == 4))
        post = tuple(sorted(tuple(actor) for actor in scene.actors[len(doers):] if actor is not None))
        return wrong, (scene.stand(), crew, post)


def plain_shortest(world, schemes, most_doers, most_events, stands=None):
    """The fewest events but begin with which a run of so many doers goes wrong, or comes to a stand; None if none does."""
    crew = Crew(world, schemes, most_doers)
    states = [crew.first()]
    known = set(states)
    if stands and world.first in stands:
        return 0
    for many in range(1, most_events + 1):
        new = {}
        for state in crew.begun(states):
            for wrong, behind in crew.behind(state):
                if (wrong if stands is None else behind[0] in stands):
                    return many
                if behind not in known:
                    new[behind] = None
        known.update(new)
        states = list(new)
    return None


def plain_barred(world, schemes, name):
    """All stands from which whole deeds of this scheme and of moves never bring it to an end that counts."""
    def nexts(stand, who):
        """All (stand, doer or None, whether the deed ended so that it counts)."""
        for number in range(len(world.lapses)):
            scene = Scene(world, schemes, stand, [list(who)] if who else [])
            if scene.act("lapse", number):
                yield scene.stand(), tuple(scene.actors[0]) if who else None, False
        if who is None:
            for scheme in schemes:
                if scheme[0] == name or scheme[1] == "move":
                    yield stand, (scheme[0], 0, False, "here"), False
        else:
            scene = Scene(world, schemes, stand, [list(who)])
            scene.act("step", 0)
            behind = tuple(scene.actors[0])
            if len(behind) == 4:
                yield scene.stand(), behind, False
            else:
                yield scene.stand(), None, who[0] == name and behind[1] != "again"

    def can(stand):
        known, waiting = {(stand, None)}, [(stand, None)]
        while waiting:
            for behind, who, counts in nexts(*waiting.pop()):
                if counts:
                    return True
                if (behind, who) not in known:
                    known.add((behind, who))
                    waiting.append((behind, who))
        return False

    return tuple(stand for stand in world.stands if not can(stand))
