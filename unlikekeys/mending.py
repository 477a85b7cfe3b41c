"""Mending: the cheapest rows that make the schemes of an offer right."""

from unlikekeys.barring import barred, barred_stands
from unlikekeys.checks import is_integer, is_tuple
from unlikekeys.judging import judged
from unlikekeys.offers import check_free, check_offer, check_options, check_prices, chosen_schemes, options_of
from unlikekeys.tables import shows_comes, shows_never, shows_right, shows_wrong


def chosen(world, offer, options):
    """The schemes of the offer with these options."""
    check_offer(world, offer)
    check_options(offer, options)
    return chosen_schemes(offer, options)


def mended(world, offer, prices, *, free=()):
    """(price, options, table, nevers, papers): the cheapest good set, and what is wrong with those ahead of it."""
    check_offer(world, offer)
    check_prices(offer, prices)
    check_free(offer, free)
    papers = []
    for price, options in priced_sets(offer, prices):
        schemes = chosen_schemes(offer, options)
        found = judged(world, schemes)
        if found[0] == "right":
            bar, nevers = first_bar(world, schemes, free)
            if bar is None:
                return price, options, found[1], nevers, tuple(papers)
            found = bar
        papers.append((options, found))
    return None, None, None, None, tuple(papers)


def shows_mended(world, offer, prices, value, *, free=()):
    """Whether any value is such a result."""
    check_offer(world, offer)
    check_prices(offer, prices)
    check_free(offer, free)
    if not is_tuple(value, 5, 5) or not isinstance(value[4], tuple):
        return False
    sets = priced_sets(offer, prices)
    many = len(value[4])
    if many > len(sets) or not shows_best(world, offer, sets[many:], value[:4], free):
        return False
    return all([shows_paper(world, offer, options, paper, free)
                for (_, options), paper in zip(sets, value[4])])


def priced_sets(offer, prices):
    """All (price, options), the cheapest first."""
    costs = dict(prices)
    sets = [()]
    for option in options_of(offer):
        sets = [*sets, *[(*options, option) for options in sets]]
    return sorted([(sum([costs[option] for option in options]), options) for options in sets])


def first_bar(world, schemes, free):
    """(("barred", name, run, layers), None) for the first of these names that is barred, or (None, nevers)."""
    nevers = []
    for name in free:
        found = barred(world, schemes, name)
        if found[0] == "run":
            return ("barred", name, *found[1:]), None
        nevers.append((name, found[1]))
    return None, tuple(nevers)


def shows_best(world, offer, sets, best, free):
    """Whether the first of the sets is good, as these four values tell it; they are None if there are no sets."""
    price, options, table, nevers = best
    if not sets:
        return best == (None, None, None, None)
    if not is_integer(price) or not is_set(sets[0][1], options) or price != sets[0][0]:
        return False
    schemes = chosen_schemes(offer, options)
    return shows_right(world, schemes, table) and shows_nevers(world, schemes, nevers, free)


def is_set(options, value):
    """Whether any value is this set of options."""
    return isinstance(value, tuple) and all([is_integer(option) for option in value]) and value == options


def shows_nevers(world, schemes, value, free):
    if not is_tuple(value, len(free), len(free)) or not all([is_tuple(pair, 2, 2) for pair in value]):
        return False
    return all([name == one and shows_never(world, schemes, barred_stands(world, schemes, name), table)
                for name, (one, table) in zip(free, value)])


def shows_paper(world, offer, options, value, free):
    """Whether any value tells why this set of options is not good."""
    if not is_tuple(value, 2, 2) or not is_set(options, value[0]) or not is_tuple(value[1], 3, 4):
        return False
    schemes = chosen_schemes(offer, options)
    if value[1][0] == "wrong" and len(value[1]) == 3:
        _, run, layers = value[1]
        return shows_wrong(world, schemes, run, layers)
    if value[1][0] == "barred" and len(value[1]) == 4:
        return shows_bar(world, schemes, value[1], free)
    return False


def shows_bar(world, schemes, value, free):
    """Whether the schemes are right, and this tells the first of the free names that is barred."""
    _, name, run, layers = value
    if name not in free or not shows_comes(world, schemes, barred_stands(world, schemes, name), run, layers):
        return False
    if any([barred(world, schemes, one)[0] == "run" for one in free[:free.index(name)]]):
        return False
    return judged(world, schemes)[0] == "right"
