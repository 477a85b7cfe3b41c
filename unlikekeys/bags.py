"""Bags: how often each member of a crowd is there, in one integer.

Each member has some bits of it, the highest of which is free. With these set, a bag that is taken away leaves all of
them as they are just if it is within the other one: one subtraction tells it for the whole crowd.
"""

# Bits for a member: counts that no tuple has, or what a crowd of many leaves in an integer of 900 digits.
WIDEST = 32
BITS = 2980


class Crowd:
    """The members of bags, ascending."""

    def __init__(self, members):
        width = min(WIDEST, BITS // max(len(members), 1))
        self.members = members
        self.shifts = {member: width * place for place, member in enumerate(members)}
        self.most = (1 << (width - 1)) - 1
        self.free = sum([(self.most + 1) << shift for shift in self.shifts.values()])
        self._sum = (1 << width) - 1

    def unit(self, member):
        """The bag with this member once; 0 for what is no member."""
        return 1 << self.shifts[member] if member in self.shifts else 0

    def bag(self, members):
        return sum([self.unit(member) for member in members])

    def size(self, bag):
        """How many members the bag has, the same one as often as it is there."""
        # The unit of each member leaves 1 behind this division.
        return bag % self._sum

    def places(self, bag):
        """All bits of the members that the bag has once."""
        return bag * self.most

    def count_at(self, bag, shift):
        return (bag >> shift) & self.most

    def listed(self, bag):
        """The members of the bag, sorted."""
        listed = []
        for member in self.members:
            listed.extend([member] * self.count_at(bag, self.shifts[member]))
        return tuple(listed)

    def is_within_one(self, lows, bag):
        """Whether one of these bags, at least, is within the bag."""
        free = self.free
        room = bag | free
        for low in lows:
            if (room - low) & free == free:
                return True
        return False

    def without_above(self, low, bags):
        """The bags that the low one is not within."""
        free = self.free
        return [bag for bag in bags if ((bag | free) - low) & free != free]
