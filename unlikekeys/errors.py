"""All errors of the package. Each keeps its argument under the argument's name."""


class UnlikeError(ValueError):
    """What all errors of the package derive from."""


class BadWorld(UnlikeError):
    """The five arguments, as a tuple, are no world."""

    def __init__(self, value):
        self.value = value


class BadPattern(UnlikeError):
    """The value is no pattern of the world."""

    def __init__(self, value):
        self.value = value


class NoStand(UnlikeError):
    """The value is no stand of the world."""

    def __init__(self, value):
        self.value = value


class BadSchemes(UnlikeError):
    """The value is no schemes of the world."""

    def __init__(self, value):
        self.value = value


class BadRun(UnlikeError):
    """The event with this index is none or is not possible; None: no tuple."""

    def __init__(self, index):
        self.index = index


class BadCase(UnlikeError):
    """The value is no case of the world and the schemes."""

    def __init__(self, value):
        self.value = value


class BadStands(UnlikeError):
    """The value is no ascending tuple of stands."""

    def __init__(self, value):
        self.value = value


class NoScheme(UnlikeError):
    """The value is the name of none of the schemes."""

    def __init__(self, value):
        self.value = value


class BadOffer(UnlikeError):
    """The value is no offer of the world."""

    def __init__(self, value):
        self.value = value


class BadOptions(UnlikeError):
    """The value is no ascending tuple of options of the offer."""

    def __init__(self, value):
        self.value = value


class BadPrices(UnlikeError):
    """The value does not give each option of the offer its price."""

    def __init__(self, value):
        self.value = value


class BadFree(UnlikeError):
    """The value is no ascending tuple of names of schemes of the offer."""

    def __init__(self, value):
        self.value = value


class BadHouses(UnlikeError):
    """The value is no ascending tuple of 2 or 3 names."""

    def __init__(self, value):
        self.value = value


class NoKey(UnlikeError):
    """The value is no name, so it is no key."""

    def __init__(self, value):
        self.value = value


class NoDoer(UnlikeError):
    """The value is the number of no doer."""

    def __init__(self, value):
        self.value = value


class NoLetter(UnlikeError):
    """The value is the number of no letter."""

    def __init__(self, value):
        self.value = value


class NoLapse(UnlikeError):
    """The value is the number of no lapse of the world."""

    def __init__(self, value):
        self.value = value


class NoEvent(UnlikeError):
    """The event, its word and its number, is not possible now."""

    def __init__(self, event):
        self.event = event


class NothingToUndo(UnlikeError):
    """Nothing is left that can be taken back."""


class BadHistory(UnlikeError):
    """The value is no history."""

    def __init__(self, value):
        self.value = value


class BadTime(UnlikeError):
    """The value is no time."""

    def __init__(self, value):
        self.value = value


class NoOrder(UnlikeError):
    """The records of this key have no order."""

    def __init__(self, key):
        self.key = key


class BadRows(UnlikeError):
    """The value is no rows."""

    def __init__(self, value):
        self.value = value


class BadDeed(UnlikeError):
    """The value is no deed of the rows."""

    def __init__(self, value):
        self.value = value


class BadText(UnlikeError):
    """The line with this number is of no form that fits there; None: no string."""

    def __init__(self, line):
        self.line = line


class NoLine(UnlikeError):
    """The value is no line that a desk knows."""

    def __init__(self, value):
        self.value = value
