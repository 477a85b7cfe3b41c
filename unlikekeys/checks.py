"""What values are, asked of any value: no question here raises an error."""

LETTERS = "abcdefghijklmnopqrstuvwxyz"


def is_integer(value):
    return isinstance(value, int) and not isinstance(value, bool)


def is_number_of(many, value):
    """Whether the value numbers one of many things, counted from 0."""
    return is_integer(value) and 0 <= value < many


def is_name(value):
    return isinstance(value, str) and 1 <= len(value) <= 8 and all([letter in LETTERS for letter in value])


def is_tuple(value, least, most):
    """Whether the value is a tuple with at least and at most so many members."""
    return isinstance(value, tuple) and least <= len(value) <= most


def are_names(value, least, most):
    return is_tuple(value, least, most) and all([is_name(name) for name in value])


def is_rising(values):
    """Whether each of these values, which can be compared, is above the one ahead of it."""
    return all([low < high for low, high in zip(values, values[1:])])


def are_different(names):
    return len(set(names)) == len(names)


def is_exactly(value, expected):
    """Whether any value is this tuple, integer, string, bool or None, and of the same kind in each place."""
    if isinstance(expected, tuple):
        if not is_tuple(value, len(expected), len(expected)):
            return False
        return all([is_exactly(one, other) for one, other in zip(value, expected)])
    # True equals 1, but it is none.
    return isinstance(value, bool) == isinstance(expected, bool) and value == expected
