"""Plans: the visits by which the rows of a deed get their keys.

A state is a tuple with "old", "lent" or "new" for each row of the deed.
"""

from unlikekeys.checks import is_rising, is_tuple

# Each word behind all words from which it can come.
WORDS = ("old", "lent", "new")
CHANGES = {"old": ("lent", "new"), "lent": ("new",), "new": ()}
# What a visit costs where a lent row costs 1: more than all rows of a deed together.
VISIT = 10
# More than any plan costs.
FAR = 1000


class Task:
    """A deed over rows, with what each state costs from there on."""

    def __init__(self, rows, deed):
        homes = {row: house for row, house, _ in rows}
        owners = {key: row for row, _, key in rows}
        places = {row: place for place, (row, _) in enumerate(deed)}
        self.deed = deed
        # For each row of the deed its house, and the place of the row whose old key it gets, None if there is none.
        self.homes = [homes[row] for row, _ in deed]
        self.givers = [places.get(owners.get(key)) for _, key in deed]
        self.houses = sorted(set(self.homes))
        self.first = ("old",) * len(deed)
        self.last = ("new",) * len(deed)
        # For each state in which all keys are different, what it costs from there on.
        self.costs = {}
        # For each (house, state) what it costs to come through this state amid a visit to the house.
        self.costs_amid = {}
        self._find_costs()

    def fits(self, state):
        """Whether all rows have different keys; those of the deed alone can have the same."""
        return not any([word == "new" and giver is not None and state[giver] == "old"
                        for word, giver in zip(state, self.givers)])

    def ways_on(self, house, state):
        """All (place, word, state behind, cost) of a change of one row in this house."""
        found = []
        for place, home in enumerate(self.homes):
            if home == house:
                for word in CHANGES[state[place]]:
                    behind = (*state[:place], word, *state[place + 1:])
                    found.append((place, word, behind, 1 if word == "lent" else 0))
        return found

    def cost_to_change(self, house, state):
        """The least cost if one row more is changed in the visit to this house."""
        return min([cost + self.costs_amid[(house, behind)] for _, _, behind, cost in self.ways_on(house, state)],
                   default=FAR)

    def _find_costs(self):
        # What is behind a state is greater in this sequence, so its cost is found first.
        for state in reversed(all_states(len(self.deed))):
            more = {house: self.cost_to_change(house, state) for house in self.houses}
            if state == self.last:
                self.costs[state] = 0
            elif self.fits(state):
                self.costs[state] = VISIT + min(list(more.values()))
            for house in self.houses:
                self.costs_amid[(house, state)] = min(more[house], self.costs.get(state, FAR))


def visits_and_lent(cost):
    return divmod(cost, VISIT)


def all_states(many):
    """All tuples of so many words, those with "old" first."""
    states = [()]
    for _ in range(many):
        states = [(*state, word) for state in states for word in WORDS]
    return states


def heights_of(task):
    """All (state, visits, lent), ascending."""
    return tuple(sorted([(state, *visits_and_lent(cost)) for state, cost in task.costs.items()]))


def plan_of(task):
    """Any plan with the least cost."""
    plan = []
    state = task.first
    while state != task.last:
        house = [one for one in task.houses if VISIT + task.cost_to_change(one, state) == task.costs[state]][0]
        visit, state = visit_from(task, house, state)
        plan.append(visit)
    return tuple(plan)


def visit_from(task, house, state):
    """(visit, state behind it): a visit to this house with the least cost."""
    keys = {}
    rest = task.cost_to_change(house, state)
    while rest != task.costs.get(state):
        place, word, behind, cost = [way for way in task.ways_on(house, state)
                                     if way[3] + task.costs_amid[(house, way[2])] == rest][0]
        row, key = task.deed[place]
        keys[row] = key if word == "new" else None
        state = behind
        rest -= cost
    return (house, tuple([(row, keys[row]) for row in sorted(list(keys))])), state


def is_plan(task, value):
    """Whether any value is a plan with the least cost."""
    if not isinstance(value, tuple):
        return False
    state, spent = task.first, 0
    for visit in value:
        if not is_visit(task, state, visit):
            return False
        _, changes = visit
        spent += VISIT + len([key for _, key in changes if key is None])
        state = state_behind(task, state, changes)
    return state == task.last and spent == task.costs[task.first]


def is_visit(task, state, value):
    """Whether any value is a visit at this state, behind which all rows have different keys."""
    if not is_tuple(value, 2, 2) or not isinstance(value[1], tuple) or value[1] == ():
        return False
    house, changes = value
    if not all([is_change(task, state, house, change) for change in changes]):
        return False
    # Rising rows say both at once: the changes are ascending, and no row has two of them.
    return is_rising([row for row, _ in changes]) and task.fits(state_behind(task, state, changes))


def is_change(task, state, house, value):
    """Whether any value is (row, key) of a row in this house, its new key or, if it has its old one, None."""
    if not is_tuple(value, 2, 2):
        return False
    row, key = value
    for home, word, (name, new) in zip(task.homes, state, task.deed):
        if row == name and house == home:
            return word == "old" if key is None else word != "new" and key == new
    return False


def state_behind(task, state, changes):
    """The state behind these changes."""
    words = {row: "lent" if key is None else "new" for row, key in changes}
    return tuple([words.get(row, word) for word, (row, _) in zip(state, task.deed)])
