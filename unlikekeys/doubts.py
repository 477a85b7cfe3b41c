"""Doubts: the fewest answers that can't be true, and what is sure about a key."""

from unlikekeys.checks import is_integer
from unlikekeys.errors import BadTime, NoOrder
from unlikekeys.histories import check_history, check_key, is_settled, keys_of, numbers_of
from unlikekeys.strands import ROWS, Strand, bits_of, rows_of


def doubts(history):
    """The fewest records, and of equally many the least tuple, without which the history has an order."""
    check_history(history)
    many = len(history)
    total = sum([least_price(history, key) for key in keys_of(history)])
    # The prices took off one bit for each doubt, and what they added for it is above all these bits.
    return tuple([number for number in range(many) if -total >> (many - 1 - number) & 1])


def price_of(many, number):
    """What it costs to doubt this one of so many records.

    By these prices fewer doubts are always cheaper, and of equally many those that come first: all that is taken off
    for some records together is less than what one more of them adds.
    """
    return (1 << many) - (1 << (many - 1 - number))


def least_price(history, key):
    """The least price of doubts with which the records of this key have an order."""
    numbers = numbers_of(history, key)
    settled = [number for number in numbers if is_settled(history[number])]
    best = sum([price_of(len(history), number) for number in settled])
    layer = {(0, False): 0}
    while layer:
        for (done, _), price in layer.items():
            left = [price_of(len(history), number) for number in settled if not done >> number & 1]
            best = min(best, price + sum(left))
        layer = layer_behind(history, numbers, layer)
    return best


def layer_behind(history, numbers, layer):
    """For each (set of records that stand first, row behind it) the least price, with one record more than here."""
    behind = {}
    for (done, row), price in layer.items():
        for number in numbers:
            if not done >> number & 1:
                for row_ahead, row_behind, more in ways_to_stand(history, done, number):
                    after = (done | 1 << number, row_behind)
                    if row_ahead == row and price + more < behind.get(after, price + more + 1):
                        behind[after] = price + more
    return behind


def ways_to_stand(history, done, number):
    """All (row ahead, row behind, price) with which a record can stand next behind these ones."""
    record = history[number]
    _, end, _, sort, _ = record
    ways = []
    # Begins rise: the last number of the set has the latest one, and the moment is behind it.
    if rows_of(record) is not None and (end is None or done == 0 or end > history[done.bit_length() - 1][0]):
        ways.append((*rows_of(record), 0))
    if end is not None and sort != "look":
        ways.append((*ROWS[(sort, "done")], price_of(len(history), number)))
    return ways


def sure(history, key, time):
    """Whether a row with this key stands just behind this time: True, False, or None if it may and may not."""
    check_history(history)
    check_key(key)
    if not is_integer(time) or time < 0:
        raise BadTime(time)
    for one in keys_of(history):
        if not Strand(history, one).has_order():
            raise NoOrder(one)
    rows = rows_at(Strand(history, key), time)
    if all(rows):
        return True
    return None if any(rows) else False


def rows_at(strand, time):
    """For each set of records whose moments can be all that are ahead of this time, whether a row stands then."""
    begun = bits_of([number for number in strand.rows if strand.records[number][0] < time])
    over = bits_of([number for number in strand.rows if has_ended_by(strand.records[number], time)])
    found = strand.first_sets()
    return [found[done][0] for done in sets_with_order(strand, found)
            if done | begun == begun and done & over == over]


def has_ended_by(record, time):
    return record[1] is not None and record[1] <= time


def sets_with_order(strand, found):
    """Those of the sets that can stand first in an order which really lead to one."""
    good = {}
    # The greater ones first: what is behind a set has one bit more.
    for done in sorted(list(found), reverse=True):
        behind = [done | 1 << number for number in strand.next_numbers(done, found[done][0])]
        if strand.has_all(done) or any([more in good for more in behind]):
            good[done] = True
    return list(good)
