"""An arena: all deeds of a world and its schemes, made ready for going back from case to case.

Here a case is (stand, hero, bag), the bag telling the others.
"""

from unlikekeys.bags import Crowd
from unlikekeys.leading import hero_beside
from unlikekeys.possible import Possible, is_fresh
from unlikekeys.steps import deeds_of, lapse_deeds, scheme_named, unmarked
from unlikekeys.wrongs import SEENS


class Loss:
    """What becomes of a crowd when the marks of some schemes are taken."""

    def __init__(self, crowd, losers):
        marked = [who for who in crowd.members if who[2] and who[0] in losers]
        self.matters = marked != []
        # The places of all that can't be there behind it.
        self.gone = crowd.places(crowd.bag(marked))
        # For each description that some have only behind it: where it is counted, and what differs ahead of it.
        self.changes = [(crowd.shifts[unmarked(who)], crowd.unit(who) - crowd.unit(unmarked(who)))
                        for who in marked if unmarked(who) in crowd.shifts]


class Way:
    """A deed, told by what it takes from the others and what it brings to them."""

    def __init__(self, crowd, deed, cost, gains, loss):
        self.crowd = crowd
        self.deed = deed
        self.cost = cost
        # For each that it brings the bag with it alone, and its places.
        self.gains = [(gain, crowd.places(gain)) for gain in gains]
        self.loss = loss
        self._gained = crowd.places(sum(gains))
        self._changes_more = loss.matters or deed.stand_ahead != deed.stand_behind

    def counts_for(self, bag):
        """Whether the deed changes anything that counts for this bag."""
        return self._changes_more or bag & self._gained != 0

    def bags_ahead(self, bag):
        """The least bags from which the deed leads to this bag or one above it."""
        for gain, places in self.gains:
            if bag & places:
                bag -= gain
        if bag & self.loss.gone:
            return []
        bags = [bag + self.cost]
        for shift, change in self.loss.changes:
            many = self.crowd.count_at(bag, shift)
            if many:
                bags = [low + times * change for low in bags for times in range(many + 1)]
        return bags


class Arena:
    """What is possible with these schemes, and all deeds at all stands."""

    def __init__(self, world, schemes):
        self.world = world
        self.schemes = schemes
        self.possible = Possible(world, schemes)
        self.crowd = Crowd(sorted([who for who in self.possible.ways if not is_fresh(who)]))
        self.first = (world.first, (), 0)
        self.deeds = [deed for stand in world.stands for deed in self._deeds_at(stand)]
        self._losses = {}
        self._heroes_ahead = {}

    def packed(self, case):
        stand, hero, others = case
        return stand, hero, self.crowd.bag(others)

    def unpacked(self, case):
        stand, hero, bag = case
        return stand, hero, self.crowd.listed(bag)

    def way_of_other(self, deed):
        """The way of a deed of anybody but the hero."""
        gains = self._units([deed.who_behind, deed.letter_behind])
        return Way(self.crowd, deed, self.crowd.unit(deed.who), gains, self._loss(deed.makes))

    def way_of_hero(self, deed):
        return Way(self.crowd, deed, 0, self._units([deed.letter_behind]), self._loss(deed.makes))

    def heroes_ahead(self, hero, deed):
        """The heroes who are this one behind a deed of anybody else."""
        if hero == ():
            return [()]
        key = (hero, deed.stand_ahead, deed.stand_behind, deed.makes)
        if key not in self._heroes_ahead:
            self._heroes_ahead[key] = self._find_heroes_ahead(hero, deed)
        return self._heroes_ahead[key]

    def heroes_with(self, who, stand):
        """The heroes with this description that are possible at the stand."""
        return [(*who, seen) for seen in SEENS if self.possible.can_have_seen(who, seen, stand)]

    def _find_heroes_ahead(self, hero, deed):
        name, number, _, how, _ = hero
        found = []
        for marked in (False, True):
            who = (name, number, marked, how)
            if who in self.possible.ways:
                found.extend(self.heroes_with(who, deed.stand_ahead))
        return [ahead for ahead in found if hero_beside(self.possible, ahead, deed) == hero]

    def _deeds_at(self, stand):
        deeds = lapse_deeds(self.world, stand)
        for who in self.possible.ways:
            deeds.extend(deeds_of(self.world, scheme_named(self.schemes, who[0]), who, stand))
        return deeds

    def _units(self, comers):
        """The bags of those of the comers who are members of the crowd, one for each."""
        return [self.crowd.unit(who) for who in comers if who in self.crowd.shifts]

    def _loss(self, makes):
        if makes not in self._losses:
            self._losses[makes] = Loss(self.crowd, self.possible.losers(makes))
        return self._losses[makes]
