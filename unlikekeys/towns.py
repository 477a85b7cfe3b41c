"""Towns: many keys, each with a stand of its own, and doers that go through schemes event by event."""

from unlikekeys.checks import is_number_of
from unlikekeys.courses import Course
from unlikekeys.errors import NoDoer, NoEvent, NoLapse, NoLetter, NoScheme, NothingToUndo
from unlikekeys.histories import check_key
from unlikekeys.schemes import check_schemes
from unlikekeys.states import State
from unlikekeys.steps import has_ended, scheme_named
from unlikekeys.trials import Trial


class Town:
    """Any number of keys; doers and letters are numbered in the whole town."""

    def __init__(self, world, schemes):
        check_schemes(world, schemes)
        self.world = world
        self.schemes = schemes
        self._come_to(State())

    def __eq__(self, other):
        return (isinstance(other, Town) and self.world == other.world and self.schemes == other.schemes
                and self.state.told == other.state.told)

    def begin(self, scheme, key):
        """Returns the number of the new doer."""
        chosen = scheme_named(self.schemes, scheme)
        if chosen is None:
            raise NoScheme(scheme)
        check_key(key)
        state = self._state_behind(("begin", scheme, key), key, ("begin", scheme))
        state.note_begin(key, chosen[1])
        self._come_to(state)
        return len(state.doers) - 1

    def step(self, doer):
        """Returns the answer if the doer has ended with it, otherwise None."""
        who = self._act("step", doer)
        return who[1] if has_ended(who) else None

    def stay(self, doer):
        self._act("stay", doer)

    def leave(self, doer):
        """Returns the number of the letter."""
        self._act("leave", doer)
        return len(self.state.letters) - 1

    def come(self, letter):
        self._check_letter(letter)
        key, place = self.state.letters[letter]
        self._come_to(self._state_behind(("come", letter), key, ("come", place)))

    def lapse(self, key, number):
        check_key(key)
        if not is_number_of(len(self.world.lapses), number):
            raise NoLapse(number)
        self._come_to(self._state_behind(("lapse", key, number), key, ("lapse", number)))

    def fall(self, doer):
        """From now on the doer has no further events."""
        self._check_doer(doer)
        if doer in self.state.fallen or has_ended(self._who(doer)):
            raise NoEvent(("fall", doer))
        state = self.state.behind(("fall", doer))
        state.note_fall(doer)
        self._come_to(state)

    def stand(self, key):
        check_key(key)
        return self._course(key).last_stand

    def has_row(self, key):
        return self.world.has_row(self.stand(key))

    def doer(self, number):
        """The description of the doer, ("ended", answer), or ("fallen", description)."""
        self._check_doer(number)
        who = self._who(number)
        return ("fallen", who) if number in self.state.fallen else who

    def letter(self, number):
        """The description of the letter, None if it has come."""
        self._check_letter(number)
        key, place = self.state.letters[number]
        return self.state.courses[key].letters[place]

    def history(self):
        """The records of all deeds but moves."""
        return tuple([record for record in self.state.records if record[3] != "move"])

    def run(self, key):
        """The events of this key, doers and letters numbered anew."""
        check_key(key)
        return tuple(self._course(key).events)

    def back(self):
        """Take back what was told last."""
        if self.state.past == ():
            raise NothingToUndo()
        self._come_to(self.state.past[-1])

    def copy(self):
        other = Town(self.world, self.schemes)
        other._come_to(self.state)
        return other

    def trial(self):
        """What a `with` takes: behind its block the town is as it was, unless the trial is kept."""
        return Trial(self)

    def tried(self, deed, *, keep=False):
        """Call the deed with the town within a trial; returns what it returned."""
        with self.trial() as trial:
            result = deed(self)
            if keep is True:
                trial.keep()
        return result

    def _come_to(self, state):
        self.state = state
        self.time = state.time
        self.known = state.known
        self.wrongs = state.wrongs

    def _check_doer(self, value):
        if not is_number_of(len(self.state.doers), value):
            raise NoDoer(value)

    def _check_letter(self, value):
        if not is_number_of(len(self.state.letters), value):
            raise NoLetter(value)

    def _course(self, key):
        """What has happened to this key; the course goes on in a copy only."""
        if key in self.state.courses:
            return self.state.courses[key]
        return Course(self.world, self.schemes)

    def _who(self, number):
        """The doer with this number, as the course of its key tells it."""
        key, place = self.state.doers[number]
        return self.state.courses[key].doers[place]

    def _state_behind(self, told, key, event):
        """The state behind an event that was told; event: the same in the run of its key."""
        course = self._course(key).copy()
        if not course.take(event):
            raise NoEvent((told[0], told[-1]))
        state = self.state.behind(told)
        state.note_event(key, course)
        return state

    def _act(self, word, number):
        """Let an event of a doer happen; returns the doer behind it."""
        self._check_doer(number)
        if number in self.state.fallen:
            raise NoEvent((word, number))
        key, place = self.state.doers[number]
        state = self._state_behind((word, number), key, (word, place))
        if word == "leave":
            state.note_letter(key)
        who = state.courses[key].doers[place]
        if has_ended(who):
            state.note_end(number, who[1])
        self._come_to(state)
        return who
