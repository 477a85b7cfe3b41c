"""A town once more, as plainly as it can be written: all that was told is played anew for each question."""

from tests.plain import PlainPlay
from unlikekeys import errors


class PlainTown:
    """It is told things as tuples: ("begin", scheme, key), ("lapse", key, number), ("fall", doer), ("step", doer) .."""

    def __init__(self, world, schemes):
        self.world = world
        self.schemes = schemes
        self.told = []

    def tell(self, thing):
        """The error that the thing raises, as (name, what it keeps), or None, and then it is done."""
        state = PlainState(self.world, self.schemes, self.told)
        error = state.error_of(thing)
        if error is None:
            if state.take(thing):
                self.told.append(thing)
            else:
                error = ("NoEvent", (thing[0], thing[-1]))
        return error

    def back(self):
        if not self.told:
            return ("NothingToUndo", None)
        self.told.pop()
        return None

    def state(self):
        return PlainState(self.world, self.schemes, self.told)


class PlainState:
    """All that can be asked of a town behind what it was told."""

    def __init__(self, world, schemes, told):
        self.world = world
        self.schemes = schemes
        self.plays, self.runs = {}, {}
        self.doers, self.letters, self.fallen = [], [], set()
        self.spans, self.wrongs = [], []
        self.time = 0
        for thing in told:
            assert self.take(thing), thing

    def error_of(self, thing):
        word = thing[0]
        if word == "begin":
            if not any(scheme[0] == thing[1] for scheme in self.schemes):
                return ("NoScheme", thing[1])
            return None if is_key(thing[2]) else ("NoKey", thing[2])
        if word == "lapse":
            if not is_key(thing[1]):
                return ("NoKey", thing[1])
            return None if is_place(self.world.lapses, thing[2]) else ("NoLapse", thing[2])
        if word == "come":
            return None if is_place(self.letters, thing[1]) else ("NoLetter", thing[1])
        return None if is_place(self.doers, thing[1]) else ("NoDoer", thing[1])

    def take(self, thing):
        """False if it is not possible now."""
        word = thing[0]
        if word == "fall":
            if thing[1] in self.fallen or self.ended(thing[1]):
                return False
            self.fallen.add(thing[1])
            return True
        if word == "begin":
            key, event = thing[2], ("begin", thing[1])
        elif word == "lapse":
            key, event = thing[1], ("lapse", thing[2])
        elif word == "come":
            key, place = self.letters[thing[1]]
            event = ("come", place)
        else:
            key, place = self.doers[thing[1]]
            if thing[1] in self.fallen:
                return False
            event = (word, place)
        play = self.plays.setdefault(key, PlainPlay(self.world, self.schemes))
        run = self.runs.setdefault(key, [])
        if not play.take(len(run), event):
            if not run:
                del self.plays[key], self.runs[key]
            return False
        run.append(event)
        self.time += 1
        if word == "begin":
            self.doers.append((key, len(play.doers) - 1))
            sort = [scheme[1] for scheme in self.schemes if scheme[0] == thing[1]][0]
            self.spans.append([self.time, None, key, sort, None])
        if word == "leave":
            self.letters.append((key, len(play.letters) - 1))
        if word in ("step", "leave") and self.ended(thing[1]):
            self.spans[thing[1]][1] = self.time
            self.spans[thing[1]][4] = self.who(thing[1])[1]
        if play.words[-1]:
            self.wrongs.append((self.time, key, play.words[-1]))
        return True

    def who(self, number):
        key, place = self.doers[number]
        return tuple(self.plays[key].doers[place])

    def ended(self, number):
        return len(self.who(number)) == 2

    def asked(self, keys):
        """What a town tells of itself, as `asked_of` asks it."""
        first = tuple(slot[2][0] for slot in self.world.slots)
        doers = [("fallen", self.who(number)) if number in self.fallen else self.who(number)
                 for number in range(len(self.doers))]
        letters = []
        for key, place in self.letters:
            actor = self.plays[key].scene.actors[self.plays[key].letters[place]]
            letters.append(None if actor is None else tuple(actor))
        return (
            self.time, tuple(sorted(self.plays)), tuple(self.wrongs),
            tuple(tuple(span) for span in self.spans if span[3] != "move"), tuple(doers), tuple(letters),
            tuple(self.plays[key].scene.stand() if key in self.plays else first for key in keys),
            tuple(self.plays[key].scene.has_row() if key in self.plays else False for key in keys),
            tuple(tuple(self.runs.get(key, ())) for key in keys),
        )


def is_key(value):
    return isinstance(value, str) and 1 <= len(value) <= 8 and all("a" <= letter <= "z" for letter in value)


def is_place(things, value):
    return isinstance(value, int) and not isinstance(value, bool) and 0 <= value < len(things)


def asked_of(town, keys):
    """All that a town tells of itself."""
    doers, letters = [], []
    for found, ask, error in ((doers, town.doer, errors.NoDoer), (letters, town.letter, errors.NoLetter)):
        while True:
            try:
                found.append(ask(len(found)))
            except error as caught:
                assert caught.value == len(found)
                break
    return (
        town.time, town.known, town.wrongs, town.history(), tuple(doers), tuple(letters),
        tuple(town.stand(key) for key in keys), tuple(town.has_row(key) for key in keys),
        tuple(town.run(key) for key in keys),
    )


def told_to(town, thing):
    """(what the town returned, None), or (None, (name of the error, what it keeps))."""
    word, *rest = thing
    try:
        return getattr(town, word)(*rest), None
    except errors.UnlikeError as error:
        kept = list(vars(error).values())
        return None, (type(error).__name__, kept[0] if kept else None)
