"""States: what a town is behind all that it was told."""


class State:
    """What a town is behind all that it was told; as soon as a town is in it, it does not change any more."""

    def __init__(self):
        # The states ahead of it, from the first one on.
        self.past = ()
        # What was told: (word, number), begins as (word, scheme, key), lapses as (word, key, number).
        self.told = ()
        self.time = 0
        self.known = ()
        self.wrongs = ()
        # For each known key its course.
        self.courses = {}
        # For each doer and each letter its key, and its number in the course of this key.
        self.doers = ()
        self.letters = ()
        self.fallen = ()
        # For each doer its record, also of moves.
        self.records = ()

    def behind(self, told):
        """A new state behind this one, as yet only told this, and else alike."""
        state = State()
        state.past = (*self.past, self)
        state.told = (*self.told, told)
        state.time = self.time
        state.known = self.known
        state.wrongs = self.wrongs
        state.courses = self.courses
        state.doers = self.doers
        state.letters = self.letters
        state.fallen = self.fallen
        state.records = self.records
        return state

    def note_event(self, key, course):
        """Note that an event of this key has happened, with the course behind it."""
        self.time += 1
        self.courses = {**self.courses, key: course}
        self.known = tuple(sorted(list(self.courses)))
        if course.word != "":
            self.wrongs = (*self.wrongs, (self.time, key, course.word))

    def note_begin(self, key, sort):
        self.doers = (*self.doers, (key, len(self.courses[key].doers) - 1))
        self.records = (*self.records, (self.time, None, key, sort, None))

    def note_end(self, number, answer):
        begin, _, key, sort, _ = self.records[number]
        record = (begin, self.time, key, sort, answer)
        self.records = (*self.records[:number], record, *self.records[number + 1:])

    def note_letter(self, key):
        self.letters = (*self.letters, (key, len(self.courses[key].letters) - 1))

    def note_fall(self, number):
        self.fallen = (*self.fallen, number)
