"""A course: what is going on behind each event of a run."""

from unlikekeys.checks import is_number_of, is_tuple
from unlikekeys.steps import DOER_WORDS, acted, fresh_doer, has_ended, scheme_named, takes_marks, unmarked
from unlikekeys.worlds import pattern_holds, stand_made
from unlikekeys.wrongs import moment_between, seen_behind, seen_first, wrong_of_doer, wrong_of_nobody


class Course:
    """A run that goes on event by event, from the first stand, without doers."""

    def __init__(self, world, schemes):
        self.world = world
        self.schemes = schemes
        # The run so far.
        self.events = []
        self.last_stand = world.first
        # Descriptions; a doer that has ended is ("ended", answer), a letter that came is None.
        self.doers = []
        self.letters = []
        # What each doer has seen since its begin.
        self.seens = []
        self.moments = []
        # The word by which the last event is wrong, "" if it is not.
        self.word = ""
        # (index, word) of the first wrong event.
        self.wrong = None

    def copy(self):
        """A course that is like this one, and goes on by itself."""
        other = Course(self.world, self.schemes)
        other.events = list(self.events)
        other.last_stand = self.last_stand
        other.doers = list(self.doers)
        other.letters = list(self.letters)
        other.seens = list(self.seens)
        other.moments = list(self.moments)
        other.word = self.word
        other.wrong = self.wrong
        return other

    def take(self, event):
        """Do what any value tells as an event; False, and nothing is done, if it is none or is not possible."""
        if not is_tuple(event, 2, 2):
            return False
        word, which = event
        taken = False
        if word == "begin":
            taken = self._begin(which)
        elif word in DOER_WORDS:
            taken = is_number_of(len(self.doers), which) and self._act(word, which)
        elif word == "come":
            taken = is_number_of(len(self.letters), which) and self._come(which)
        elif word == "lapse":
            taken = is_number_of(len(self.world.lapses), which) and self._lapse(which)
        if taken:
            self.events.append(event)
        return taken

    def _begin(self, name):
        scheme = scheme_named(self.schemes, name)
        if scheme is None:
            return False
        self.doers.append(fresh_doer(scheme))
        self.seens.append(seen_first(self.world.has_row(self.last_stand)))
        self._note_wrong(wrong_of_nobody("", self.world.is_broken(self.last_stand)))
        return True

    def _act(self, word, number):
        who = self.doers[number]
        if has_ended(who):
            return False
        scheme = scheme_named(self.schemes, who[0])
        what = acted(self.world, scheme, who, word, self.last_stand)
        if what is None:
            return False
        makes, doer, letter = what
        seen = self.seens[number]
        moment = self._make(makes, number, scheme[1])
        # Behind the making, which takes the marks of all others: the doer's own mark may be a new one.
        self.doers[number] = doer
        if letter is not None:
            self.letters.append(letter)
        answer = doer[1] if has_ended(doer) else None
        broken = self.world.is_broken(self.last_stand)
        self._note_wrong(wrong_of_doer(scheme[1], moment, seen, self.seens[number], answer, broken))
        return True

    def _come(self, number):
        letter = self.letters[number]
        if letter is None:
            return False
        scheme = scheme_named(self.schemes, letter[0])
        makes, _, _ = acted(self.world, scheme, letter, "come", self.last_stand)
        self.letters[number] = None
        self._make_by_nobody(makes)
        return True

    def _lapse(self, number):
        _, needs, makes = self.world.lapses[number]
        if not pattern_holds(self.world.slots, needs, self.last_stand):
            return False
        self._make_by_nobody(makes)
        return True

    def _make_by_nobody(self, makes):
        moment = self._make(makes, None, None)
        self._note_wrong(wrong_of_nobody(moment, self.world.is_broken(self.last_stand)))

    def _make(self, makes, number, sort):
        """Make the pattern by an event of the doer with this number and sort, or of nobody; returns the moment."""
        row_ahead = self.world.has_row(self.last_stand)
        self.last_stand = stand_made(self.world.slots, self.last_stand, makes)
        row_behind = self.world.has_row(self.last_stand)
        moment = moment_between(row_ahead, row_behind)
        if moment != "":
            self.moments.append((len(self.events), moment, number))
        self._take_marks(makes)
        self.seens = [seen_behind(seen, at == number and moment == sort, row_behind)
                      for at, seen in enumerate(self.seens)]
        return moment

    def _take_marks(self, makes):
        losers = [scheme[0] for scheme in self.schemes if takes_marks(scheme, makes)]
        self.doers = [unmarked(doer) if not has_ended(doer) and doer[0] in losers else doer for doer in self.doers]
        self.letters = [unmarked(letter) if letter is not None and letter[0] in losers else letter
                        for letter in self.letters]

    def _note_wrong(self, word):
        self.word = word
        if self.wrong is None and word != "":
            self.wrong = (len(self.events), word)
