"""Section 13 once more, by trying all sequences: what tests compare with."""

import itertools
from fractions import Fraction

TINY = Fraction(1, 1000)
ANSWERS = {"put": ("done", "refused", "again"), "drop": ("done", "none", "again"), "look": ("there", "none", "again")}


def plain_is_record(value):
    def is_integer(one):
        return type(one) is int and one >= 1

    if type(value) is not tuple or len(value) != 5:
        return False
    begin, end, key, sort, answer = value
    if not is_integer(begin) or type(key) is not str or not 1 <= len(key) <= 8 or set(key) - set("abcdefghijklmnopqrstuvwxyz"):
        return False
    if type(sort) is not str or sort not in ANSWERS:
        return False
    return end is answer is None or (is_integer(end) and begin < end and type(answer) is str and answer in ANSWERS[sort])


def plain_is_history(value):
    if type(value) is not tuple or not all(plain_is_record(record) for record in value):
        return False
    begins = [record[0] for record in value]
    times = begins + [record[1] for record in value if record[1] is not None]
    keys = [record[2] for record in value]
    return (begins == sorted(begins) and len(set(times)) == len(times) and len(value) <= 24
            and all(keys.count(key) <= 8 for key in keys))


def can_stand(record):
    _, end, _, sort, answer = record
    return answer != "again" if end is not None else sort != "look"


def has_to_stand(record):
    return record[1] is not None and record[4] != "again"


def earliest(history, sequence, start=0):
    """The earliest moments of these records, none ahead of the start; None if one of them comes too late."""
    moments, now = [], Fraction(start)
    for number in sequence:
        begin, end, _, _, _ = history[number]
        now = max(now, Fraction(begin)) + TINY
        if end is not None and now >= end:
            return None
        moments.append(now)
    return moments


def table_answers(history, sequence):
    """The keys with a row behind these deeds, None if one table would have answered otherwise."""
    rows = set()
    for number in sequence:
        _, end, key, sort, answer = history[number]
        if end is None:
            answer = "done"
        stands = key in rows
        if sort == "put":
            told = "refused" if stands else "done"
            rows.add(key)
        elif sort == "drop":
            told = "done" if stands else "none"
            rows.discard(key)
        else:
            told = "there" if stands else "none"
        if told != answer:
            return None
    return rows


def plain_sequences(history, key=None):
    """All sequences of records (of a key) that one table would have answered so, at moments in this sequence."""
    numbers = [number for number, record in enumerate(history) if can_stand(record) and key in (None, record[2])]
    for many in range(len(numbers) + 1):
        for sequence in itertools.permutations(numbers, many):
            if earliest(history, sequence) is not None and table_answers(history, sequence) is not None:
                yield sequence


def needed(history, key=None):
    return {number for number, record in enumerate(history) if has_to_stand(record) and key in (None, record[2])}


def plain_orders(history, key=None):
    return [sequence for sequence in plain_sequences(history, key) if needed(history, key) <= set(sequence)]


def plain_has_order(history):
    return all(any(True for _ in plain_orders(history, key)) for key in {record[2] for record in history})


def plain_closed(history, key):
    if plain_orders(history, key):
        return None
    found = set()
    for sequence in plain_sequences(history, key):
        missing = [one for one in needed(history, key) - set(sequence)
                   if any(history[one][1] < history[other][0] for other in sequence)]
        if not missing:
            found.add((tuple(sorted(sequence)), key in table_answers(history, sequence)))
    return tuple(sorted(found))


def plain_sure(history, key, time):
    """True, False or None, or the key for which there is no order."""
    for one in sorted({record[2] for record in history}):
        if not plain_orders(history, one):
            return one
    told = set()
    for order in plain_orders(history, key):
        for cut in range(len(order) + 1):
            head = earliest(history, order[:cut])
            if all(moment < time for moment in head) and earliest(
                    history, order[cut:], max([Fraction(time), *head])) is not None:
                told.add(key in table_answers(history, order[:cut]))
    return told.pop() if len(told) == 1 else None


def doubted(history, numbers):
    return tuple((begin, None, key, sort, None) if number in numbers else (begin, end, key, sort, answer)
                 for number, (begin, end, key, sort, answer) in enumerate(history))


def plain_doubts(history):
    ended = [number for number, record in enumerate(history) if record[1] is not None]
    for many in range(len(ended) + 1):
        for numbers in itertools.combinations(ended, many):
            if plain_has_order(doubted(history, numbers)):
                return numbers
    raise AssertionError("all may be doubted")


def chance_history(chance, many, keys=("k", "l"), honest=0.0, pending=0.2):
    """A history by chance; with `honest` of its answers as one table gave them at some moment of the deed."""
    times = list(range(1, 2 * many + 1 + chance.randrange(3)))
    chance.shuffle(times)
    width = chance.choice((2, 4, 40))
    records, used = [], set()
    for _ in range(many):
        begin = min(time for time in times if time not in used)
        used.add(begin)
        end = chance.choice([time for time in sorted(times) if time not in used][:width])
        used.add(end)
        records.append([begin, end, chance.choice(keys), chance.choice(("put", "put", "drop", "look")), None])
    order = sorted(range(many), key=lambda number: chance.uniform(records[number][0], records[number][1]))
    rows = set()
    for number in order:
        begin, end, key, sort, _ = records[number]
        if chance.random() < pending:
            records[number][1] = None
            if sort == "look" or chance.random() < 0.5:
                continue
        truth = {"put": ("done", "refused"), "drop": ("none", "done"), "look": ("none", "there")}[sort][key in rows]
        if records[number][1] is not None:
            records[number][4] = truth if chance.random() < honest else chance.choice(ANSWERS[sort])
        if (records[number][1] is None or records[number][4] == truth) and sort != "look":
            (rows.add if sort == "put" else rows.discard)(key)
    return tuple(sorted(tuple(record) for record in records))
