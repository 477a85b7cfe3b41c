"""Aims: what a search goes back from, and the ways on which it does."""

from unlikekeys.leading import hero_by_own, word_of_other
from unlikekeys.steps import fresh_doer
from unlikekeys.wrongs import seen_first


class Aim:
    """The cases at which the aim is reached at once, and the ways by which events lead from case to case."""

    def __init__(self, arena):
        self.arena = arena
        # For each case the event by which it reaches the aim, None if it is there already.
        self.starts = {}
        self.ways = {stand: [] for stand in arena.world.stands}
        # For each (stand, hero) all (way, hero ahead) of deeds of the hero itself.
        self.hero_ways = {}
        # For each (stand, hero) that begin leads to, the name of the scheme.
        self.begins = {}

    def add_start(self, case, event):
        if case not in self.starts:
            self.starts[case] = event

    def cases_ahead(self, case):
        """(case, event) for all least cases from which an event but begin leads to this case or one above it.

        There may be more; from each of them the event leads so.
        """
        stand, hero, bag = case
        found = []
        for way in self.ways[stand]:
            if way.counts_for(bag):
                heroes = self.arena.heroes_ahead(hero, way.deed)
                found.extend(cases_of_way(way, heroes, bag, (way.deed.word, way.deed.who)))
        for way, hero_ahead in self.hero_ways.get((stand, hero), ()):
            if hero_ahead != hero or way.counts_for(bag):
                found.extend(cases_of_way(way, [hero_ahead], bag, (way.deed.word, ())))
        return found


def cases_of_way(way, heroes, bag, event):
    return [((way.deed.stand_ahead, hero, low), event) for low in way.bags_ahead(bag) for hero in heroes]


def aim_at_wrong(arena):
    """The aim that some event is wrong."""
    aim = Aim(arena)
    possible = arena.possible
    for stand in arena.world.stands:
        for scheme in arena.schemes:
            aim.begins[(stand, (*fresh_doer(scheme), seen_first(possible.rows[stand])))] = scheme[0]
        # There even a begin is wrong.
        if possible.broken[stand]:
            aim.add_start((stand, (), 0), None)
    for deed in arena.deeds:
        way = arena.way_of_other(deed)
        if word_of_other(possible, deed) != "":
            aim.add_start((deed.stand_ahead, (), way.cost), (deed.word, deed.who))
        else:
            aim.ways[deed.stand_behind].append(way)
        if deed.who_behind is not None:
            add_hero_ways(aim, deed)
    return aim


def add_hero_ways(aim, deed):
    """Add the deed as one of the hero, whatever the hero has seen."""
    arena = aim.arena
    way = arena.way_of_hero(deed)
    for hero in arena.heroes_with(deed.who, deed.stand_ahead):
        word, behind = hero_by_own(arena.possible, hero, deed)
        if word != "":
            aim.add_start((deed.stand_ahead, hero, 0), (deed.word, ()))
        elif behind != ():
            aim.hero_ways.setdefault((deed.stand_behind, behind), []).append((way, hero))


def aim_at_stands(arena, stands):
    """The aim to come to one of these stands; there are no heroes, and wrong events lead on as others."""
    aim = Aim(arena)
    for stand in stands:
        aim.add_start((stand, (), 0), None)
    for deed in arena.deeds:
        way = arena.way_of_other(deed)
        if deed.stand_behind in stands:
            aim.add_start((deed.stand_ahead, (), way.cost), (deed.word, deed.who))
        else:
            aim.ways[deed.stand_behind].append(way)
    return aim
