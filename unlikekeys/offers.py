"""Offers: schemes with rows that may be left out."""

from unlikekeys.checks import is_integer, is_rising, is_tuple
from unlikekeys.errors import BadFree, BadOffer, BadOptions, BadPrices
from unlikekeys.schemes import is_schemes
from unlikekeys.steps import scheme_named


def check_offer(world, value):
    if not is_offer(world, value):
        raise BadOffer(value)


def check_options(offer, value):
    if not isinstance(value, tuple) or not all([is_option_of(offer, one) for one in value]) or not is_rising(value):
        raise BadOptions(value)


def check_prices(offer, value):
    if not isinstance(value, tuple) or not all([is_price(pair) for pair in value]):
        raise BadPrices(value)
    if [option for option, _ in value] != options_of(offer):
        raise BadPrices(value)


def check_free(offer, value):
    if not isinstance(value, tuple) or not all([scheme_named(offer, name) is not None for name in value]):
        raise BadFree(value)
    if not is_rising(value):
        raise BadFree(value)


def is_offer(world, value):
    """Whether any value is an offer."""
    if not is_tuple(value, 1, 3) or not all([has_rows_of_offer(scheme) for scheme in value]):
        return False
    if not is_schemes(world, tuple([with_all_rows(scheme) for scheme in value])):
        return False
    if any([has_ring(scheme[3]) for scheme in value]):
        return False
    # Without options the fewest rows are left. Nothing else can keep a choice from being schemes.
    return is_schemes(world, chosen_schemes(value, ()))


def has_rows_of_offer(value):
    """Whether any value is like a scheme in which each row that may be left out is a step, and not row 0."""
    if not is_tuple(value, 4, 4) or not isinstance(value[3], tuple):
        return False
    return all([number > 0 and is_may(row) for number, row in enumerate(value[3]) if begins_with_may(row)])


def begins_with_may(row):
    return isinstance(row, tuple) and row != () and row[0] == "may"


def is_may(row):
    if not is_tuple(row, 3, 3) or not is_integer(row[1]) or not 1 <= row[1] <= 4:
        return False
    return is_tuple(row[2], 7, 7) and row[2][0] in ("do", "ask")


def is_price(value):
    """Whether any value is (option, price)."""
    return is_tuple(value, 2, 2) and is_integer(value[0]) and is_integer(value[1]) and 1 <= value[1] <= 99


def is_option_of(offer, value):
    return is_integer(value) and value in options_of(offer)


def options_of(offer):
    """The options of the offer, ascending."""
    return sorted(set([row[1] for scheme in offer for row in scheme[3] if row[0] == "may"]))


def plain_row(row):
    return row[2] if begins_with_may(row) else row


def with_all_rows(scheme):
    name, sort, watch, rows = scheme
    return (name, sort, watch, tuple([plain_row(row) for row in rows]))


def has_ring(rows):
    """Whether rows that may be left out go round by their then."""
    for start in range(len(rows)):
        number = start
        for _ in rows:
            if rows[number][0] == "may":
                number = rows[number][2][5]
        # Without a ring so many steps come to a row that stays.
        if rows[number][0] == "may":
            return True
    return False


def chosen_schemes(offer, options):
    """The schemes with these options; the other rows that may be left out are."""
    return tuple([chosen_scheme(scheme, options) for scheme in offer])


def chosen_scheme(scheme, options):
    name, sort, watch, rows = scheme
    stays = [number for number, row in enumerate(rows) if row[0] != "may" or row[1] in options]
    places = {number: place for place, number in enumerate(stays)}
    goals = [places[row_that_stays(rows, places, number)] for number in range(len(rows))]
    chosen = []
    for number in stays:
        row = plain_row(rows[number])
        chosen.append(row if row[0] == "say" else (*row[:5], goals[row[5]], goals[row[6]]))
    return (name, sort, watch, tuple(chosen))


def row_that_stays(rows, places, number):
    """The number of the row at which one who comes to this row is in the end."""
    while number not in places:
        number = rows[number][2][5]
    return number
