"""Worlds: what the houses keep for one key."""

from unlikekeys.checks import are_different, are_names, is_name, is_rising, is_tuple
from unlikekeys.errors import BadPattern, BadWorld, NoStand

MOST_STANDS = 32


class World:
    """What the houses keep for one key, where a row stands, and what must never be."""

    def __init__(self, houses, slots, bears, never, lapses):
        if not is_world(houses, slots, bears, never, lapses):
            raise BadWorld((houses, slots, bears, never, lapses))
        self.houses = houses
        self.slots = slots
        self.bears = bears
        self.never = never
        self.lapses = lapses
        self.first = first_stand(slots)
        self.stands = all_stands(slots)

    def __eq__(self, other):
        return (isinstance(other, World) and self.houses == other.houses and self.slots == other.slots
                and self.bears == other.bears and self.never == other.never and self.lapses == other.lapses)

    def is_pattern(self, value):
        return is_pattern_over(self.slots, value)

    def is_stand(self, value):
        return value in self.stands

    def holds(self, pattern, stand):
        self._check_pattern(pattern)
        self._check_stand(stand)
        return pattern_holds(self.slots, pattern, stand)

    def made(self, stand, pattern):
        """The stand behind making the pattern at the stand."""
        self._check_stand(stand)
        self._check_pattern(pattern)
        return stand_made(self.slots, stand, pattern)

    def has_row(self, stand):
        self._check_stand(stand)
        return one_holds(self.slots, self.bears, stand)

    def is_broken(self, stand):
        self._check_stand(stand)
        return one_holds(self.slots, self.never, stand)

    def _check_pattern(self, value):
        if not self.is_pattern(value):
            raise BadPattern(value)

    def _check_stand(self, value):
        if not self.is_stand(value):
            raise NoStand(value)


def is_world(houses, slots, bears, never, lapses):
    """Whether any five values are the arguments of a world."""
    if not are_houses(houses) or not are_slots(houses, slots):
        return False
    if not are_full_patterns(slots, bears) or not are_full_patterns(slots, never) or bears == ():
        return False
    first = first_stand(slots)
    if one_holds(slots, bears, first) or one_holds(slots, never, first):
        return False
    return is_tuple(lapses, 0, 4) and all([is_lapse(slots, lapse) for lapse in lapses])


def are_houses(value):
    return are_names(value, 1, 4) and is_rising(value)


def are_slots(houses, value):
    if not is_tuple(value, 1, 6) or not all([is_slot(houses, slot) for slot in value]):
        return False
    return are_different([name for name, _, _ in value]) and count_stands(value) <= MOST_STANDS


def is_slot(houses, value):
    if not is_tuple(value, 3, 3):
        return False
    name, house, words = value
    return is_name(name) and house in houses and are_names(words, 2, 4) and are_different(words)


def count_stands(slots):
    many = 1
    for _, _, words in slots:
        many *= len(words)
    return many


def first_stand(slots):
    return tuple([words[0] for _, _, words in slots])


def all_stands(slots):
    """All stands, ascending."""
    stands = [()]
    for _, _, words in slots:
        stands = [(*stand, word) for stand in stands for word in words]
    return tuple(sorted(stands))


def is_pattern_over(slots, value):
    """Whether any value is a pattern of no other slots than these."""
    if not isinstance(value, tuple) or not all([is_pair_over(slots, pair) for pair in value]):
        return False
    # Rising slots say both at once: the pattern is ascending, and no slot is in it twice.
    return is_rising([slot for slot, _ in value])


def is_pair_over(slots, value):
    """Whether any value is (slot, word), a slot of these and one of its words."""
    if not is_tuple(value, 2, 2):
        return False
    slot, word = value
    return any([slot == name and word in words for name, _, words in slots])


def are_full_patterns(slots, value):
    """Whether any value is an ascending tuple of patterns without ()."""
    if not isinstance(value, tuple) or not all([is_pattern_over(slots, pattern) for pattern in value]):
        return False
    return is_rising(value) and () not in value


def is_pattern_at(slots, house, value):
    """Whether any value is a pattern of slots of this house."""
    return is_pattern_over([slot for slot in slots if slot[1] == house], value)


def is_lapse(slots, value):
    if not is_tuple(value, 3, 3):
        return False
    # A makes that is not () has a slot of this house, so the house is one of the world's.
    house, needs, makes = value
    return is_pattern_at(slots, house, needs) and is_pattern_at(slots, house, makes) and makes != ()


def pattern_holds(slots, pattern, stand):
    """Whether the pattern holds at the stand; both are of these slots."""
    words = {slot[0]: word for slot, word in zip(slots, stand)}
    return all([words[slot] == word for slot, word in pattern])


def one_holds(slots, patterns, stand):
    return any([pattern_holds(slots, pattern, stand) for pattern in patterns])


def stand_made(slots, stand, pattern):
    """The stand behind making the pattern at the stand; both are of these slots."""
    made = dict(pattern)
    return tuple([made.get(slot[0], word) for slot, word in zip(slots, stand)])
