"""Searches: layer by layer back from an aim, to all least cases from which it is reached."""


class Search:
    """The least cases found so far, and how the aim is reached from each that was one when it was found."""

    def __init__(self, aim):
        self.aim = aim
        self.arena = aim.arena
        self.layers = []
        # For each (stand, hero) the bags of the least cases; for each stand the heroes that it has there.
        self.bags = {}
        self.heroes = {stand: [] for stand in self.arena.world.stands}
        # For each case of a layer (scheme that begins or None, event, case that it leads above or None).
        self.reasons = {}

    def go_back(self):
        """Find one layer more; returns whether it has any case."""
        if self.layers == []:
            found = [(case, (None, event, None)) for case, event in self.aim.starts.items()]
        else:
            found = [(ahead, (None, event, case)) for case in self.layers[-1]
                     for ahead, event in self.aim.cases_ahead(case)]
        reasons = {}
        for case, reason in found:
            self._note(reasons, case, reason)
        layer = []
        for case in sorted(list(reasons), key=self.place):
            if not self.covers(case):
                layer.append(case)
                self.note_least(case)
                self.reasons[case] = reasons[case]
        self.layers.append(layer)
        return layer != []

    def place(self, case):
        """What comes first by this can't be above what comes behind it."""
        _, hero, bag = case
        many = self.arena.crowd.size(bag)
        # A case without a hero may be within one with a hero, whose others are one less than its own.
        return many if hero == () else many + 2

    def reaches_first(self):
        """Whether the last layer has the case with which all runs begin."""
        return self.arena.first in self.layers[-1]

    def covers(self, case):
        """Whether a case that was found is within this one."""
        stand, hero, bag = case
        crowd = self.arena.crowd
        if crowd.is_within_one(self.bags.get((stand, hero), ()), bag):
            return True
        return hero != () and crowd.is_within_one(self.bags.get((stand, ()), ()), bag + crowd.unit(hero[:4]))

    def note_least(self, case):
        """Add a case that no other one is within; those that it is within are least no more."""
        stand, hero, bag = case
        crowd = self.arena.crowd
        if hero not in self.heroes[stand]:
            self.heroes[stand].append(hero)
        self.bags[(stand, hero)] = [*crowd.without_above(bag, self.bags.get((stand, hero), ())), bag]
        if hero == ():
            for other in self.heroes[stand]:
                if other != ():
                    unit = crowd.unit(other[:4])
                    self.bags[(stand, other)] = [high for high in self.bags[(stand, other)]
                                                 if not crowd.is_within_one([bag], high + unit)]

    def least(self):
        """All least cases that were found."""
        return [(stand, hero, bag) for stand, hero in self.bags for bag in self.bags[(stand, hero)]]

    def _note(self, reasons, case, reason):
        """Note a case, and the one from which begin leads to it."""
        if case not in reasons:
            reasons[case] = reason
        stand, hero, bag = case
        name = self.aim.begins.get((stand, hero))
        if name is not None and (stand, (), bag) not in reasons:
            _, event, behind = reason
            reasons[(stand, (), bag)] = (name, event, behind)
