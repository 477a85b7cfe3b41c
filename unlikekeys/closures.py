"""Closures: all that is reached by going on and on."""


def reached(starts, table):
    """A dict with all that is reached from the starts by the table: for each key what comes next, perhaps nothing."""
    found = {}
    waiting = list(starts)
    while waiting:
        one = waiting.pop()
        if one not in found:
            found[one] = True
            waiting.extend(table.get(one, ()))
    return found
