"""Section 14 once more, by a plain search over all states."""

import itertools

BEHIND = {"old": ("old", "lent", "new"), "lent": ("lent", "new"), "new": ("new",)}


def keys_at(rows, deed, state):
    """The key of each row; a lent key is one that nobody else has."""
    keys = {row: key for row, _, key in rows}
    for (row, new), word in zip(deed, state):
        keys[row] = {"old": keys[row], "lent": ("lent", row), "new": new}[word]
    return keys


def fits(rows, deed, state):
    keys = list(keys_at(rows, deed, state).values())
    return len(set(keys)) == len(keys)


def visits_from(rows, deed, state):
    """All (visit, state behind it, rows that it lends a key)."""
    homes = {row: house for row, house, _ in rows}
    for house in sorted(set(homes.values())):
        choices = [BEHIND[word] if homes[row] == house else (word,) for (row, _), word in zip(deed, state)]
        for behind in itertools.product(*choices):
            if behind != state and fits(rows, deed, behind):
                changes = tuple((row, new if word == "new" else None)
                                for (row, new), was, word in zip(deed, state, behind) if was != word)
                yield (house, changes), behind, len([key for _, key in changes if key is None])


def plain_heights(rows, deed):
    """For each state whose rows all have different keys (visits, lent)."""
    states = [state for state in itertools.product(("old", "lent", "new"), repeat=len(deed)) if fits(rows, deed, state)]
    found = {("new",) * len(deed): (0, 0)}
    # All that a visit leads to comes behind in this sequence.
    for state in sorted(states, key=lambda one: [("old", "lent", "new").index(word) for word in one], reverse=True):
        if state not in found:
            found[state] = min((found[behind][0] + 1, found[behind][1] + lent)
                               for _, behind, lent in visits_from(rows, deed, state))
    return found


def plain_plans(rows, deed, state, visits):
    """All (plan, lent) of so many visits from this state."""
    if visits == 0:
        if state == ("new",) * len(deed):
            yield (), 0
        return
    for visit, behind, lent in visits_from(rows, deed, state):
        for plan, more in plain_plans(rows, deed, behind, visits - 1):
            yield (visit, *plan), lent + more


def carried_out(case, rows, deed, plan):
    """Carry a plan out; returns how many rows were lent a key."""
    keys = {row: key for row, _, key in rows}
    olds = dict(keys)
    homes = {row: house for row, house, _ in rows}
    news = dict(deed)
    lent = 0
    for house, changes in plan:
        case.assertNotEqual(changes, ())
        case.assertEqual(list(changes), sorted(changes, key=lambda change: change[0]))
        case.assertEqual(len({row for row, _ in changes}), len(changes))
        for row, key in changes:
            case.assertEqual(homes[row], house)
            if key is None:
                case.assertEqual(keys[row], olds[row])
                keys[row] = ("lent", row)
                lent += 1
            else:
                case.assertEqual(key, news[row])
                case.assertNotEqual(keys[row], key)
                keys[row] = key
        case.assertEqual(len(set(keys.values())), len(keys))
    case.assertEqual(keys, {**olds, **news})
    return lent


def chance_task(chance, most=4):
    """(rows, deed) by chance: some keys go round, some are free."""
    names = chance.sample("abcdefghij", chance.randint(1, 8))
    houses = ("h", "i", "j")[:chance.randint(1, 3)]
    keys = chance.sample(["k" + sign for sign in "abcdefghijkl"], 12)
    rows = tuple(sorted((name, chance.choice(houses), key) for name, key in zip(names, keys)))
    while True:
        some = sorted(chance.sample(names, chance.randint(1, min(most, len(names)))))
        pool = [key for name, _, key in rows if name in some] + [key for key in keys[len(names):] if chance.random() < 0.3]
        if len(pool) < len(some):
            continue
        deed = tuple(zip(some, chance.sample(pool, len(some))))
        olds = {name: key for name, _, key in rows}
        if all(olds[row] != key for row, key in deed):
            return rows, deed
