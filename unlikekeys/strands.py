"""Strands: the records of one key, and in which sequences they can stand in an order.

A set of records is told by an integer: the record with number n by the bit 1 << n.
"""

from unlikekeys.histories import is_settled, numbers_of

# For each sort and answer whether a row stands just ahead of the moment, and whether one does behind it.
ROWS = {
    ("put", "done"): (False, True), ("put", "refused"): (True, True),
    ("drop", "done"): (True, False), ("drop", "none"): (False, False),
    ("look", "there"): (True, True), ("look", "none"): (False, False),
}


def rows_of(record):
    """(row ahead, row behind) of a record that can stand in an order, None for any other one."""
    _, end, _, sort, answer = record
    return ROWS.get((sort, "done" if end is None else answer))


def bits_of(numbers):
    return sum([1 << number for number in numbers])


class Strand:
    """The records of one key that can stand in an order."""

    def __init__(self, history, key):
        self.records = history
        numbers = numbers_of(history, key)
        self.rows = {number: rows_of(history[number]) for number in numbers if rows_of(history[number]) is not None}
        settled = [number for number in numbers if is_settled(history[number])]
        self.needed = bits_of(settled)
        # For each record those that have to stand ahead of it.
        self.ahead = {number: bits_of([one for one in settled if history[one][1] < history[number][0]])
                      for number in self.rows}

    def next_numbers(self, done, row):
        """All records that can stand next behind these ones, told whether a row stands behind them."""
        return [number for number, ahead in self.ahead.items()
                if self.rows[number][0] == row and done >> number & 1 == 0 and done & ahead == ahead]

    def has_all(self, done):
        """Whether all that have to stand in an order are among these."""
        return done & self.needed == self.needed

    def first_sets(self):
        """For each set that can stand first in an order (whether a row stands behind it, the last one of it)."""
        found = {0: (False, None)}
        waiting = [0]
        while waiting:
            done = waiting.pop()
            for number in self.next_numbers(done, found[done][0]):
                more = done | 1 << number
                if more not in found:
                    found[more] = (self.rows[number][1], number)
                    waiting.append(more)
        return found

    def has_order(self):
        return any([self.has_all(done) for done in self.first_sets()])

    def order(self):
        """Any order of these records, None if there is none."""
        found = self.first_sets()
        for done in found:
            if self.has_all(done):
                return sequence_to(found, done)
        return None

    def numbers_in(self, done):
        """The numbers of these records, ascending."""
        return tuple([number for number in self.rows if done >> number & 1])


def sequence_to(found, done):
    """A sequence in which these records can stand first."""
    numbers = []
    while done:
        last = found[done][1]
        numbers.append(last)
        done -= 1 << last
    return tuple(reversed(numbers))
