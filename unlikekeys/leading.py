"""What events lead to, from case to case."""

from unlikekeys.possible import is_fresh
from unlikekeys.steps import deeds_of, fresh_doer, has_ended, lapse_deeds, scheme_named, unmarked
from unlikekeys.wrongs import moment_between, seen_behind, seen_first, wrong_of_doer, wrong_of_nobody


def steps_from(possible, case):
    """All (event, word, case behind) of a case; behind a wrong event stands ()."""
    stand, hero, others = case
    steps = [step_of_other(possible, case, deed) for deed in deeds_beside(possible, stand, others)]
    if hero == ():
        steps.extend([step_of_begin(possible, case, scheme) for scheme in possible.schemes])
    else:
        scheme = scheme_named(possible.schemes, hero[0])
        deeds = deeds_of(possible.world, scheme, hero[:4], stand)
        steps.extend([step_of_hero(possible, case, deed) for deed in deeds])
    return steps


def deeds_beside(possible, stand, others):
    """The deeds of lapses, of all others, once each, and of fresh doers at the stand."""
    deeds = lapse_deeds(possible.world, stand)
    for who in sorted(set([*others, *[fresh_doer(scheme) for scheme in possible.schemes]])):
        deeds.extend(deeds_of(possible.world, scheme_named(possible.schemes, who[0]), who, stand))
    return deeds


def step_of_begin(possible, case, scheme):
    stand, _, others = case
    hero = (*fresh_doer(scheme), seen_first(possible.rows[stand]))
    return told_step(("begin", scheme[0]), wrong_of_nobody("", possible.broken[stand]), (stand, hero, others))


def step_of_hero(possible, case, deed):
    _, hero, others = case
    word, hero_behind = hero_by_own(possible, hero, deed)
    crowd = crowd_behind(possible, others, deed, (deed.letter_behind,))
    return told_step((deed.word, ()), word, (deed.stand_behind, hero_behind, crowd))


def step_of_other(possible, case, deed):
    """The step by a deed of a doer that is not the hero, of a letter or of a lapse."""
    _, hero, others = case
    if deed.word != "lapse" and not is_fresh(deed.who):
        at = others.index(deed.who)
        others = others[:at] + others[at + 1:]
    crowd = crowd_behind(possible, others, deed, (deed.who_behind, deed.letter_behind))
    behind = (deed.stand_behind, hero_beside(possible, hero, deed), crowd)
    return told_step((deed.word, deed.who), word_of_other(possible, deed), behind)


def told_step(event, word, behind):
    return (event, word, behind) if word == "" else (event, word, ())


def crowd_behind(possible, idle, deed, comers):
    """The others behind a deed: those that did nothing, and those that it brings, if they are any."""
    losers = possible.losers(deed.makes)
    crowd = [unmarked(who) if who[0] in losers else who for who in idle]
    crowd.extend([who for who in comers if who is not None and not has_ended(who)])
    return tuple(sorted([who for who in crowd if not is_fresh(who)]))


def moment_of(possible, deed):
    return moment_between(possible.rows[deed.stand_ahead], possible.rows[deed.stand_behind])


def word_of_other(possible, deed):
    """The word by which a deed of anybody but the hero is wrong, "" if it is not."""
    broken = possible.broken[deed.stand_behind]
    if deed.word in ("come", "lapse"):
        return wrong_of_nobody(moment_of(possible, deed), broken)
    return "never" if broken else ""


def hero_by_own(possible, hero, deed):
    """(word, hero behind) of a deed of the hero: "" if it is not wrong, () if the hero ends with it."""
    sort = scheme_named(possible.schemes, hero[0])[1]
    moment = moment_of(possible, deed)
    seen = seen_behind(hero[4], moment == sort, possible.rows[deed.stand_behind])
    ended = has_ended(deed.who_behind)
    answer = deed.who_behind[1] if ended else None
    word = wrong_of_doer(sort, moment, hero[4], seen, answer, possible.broken[deed.stand_behind])
    return (word, ()) if ended else (word, (*deed.who_behind, seen))


def hero_beside(possible, hero, deed):
    """The hero behind a deed of anybody else."""
    if hero == ():
        return ()
    who = unmarked(hero[:4]) if hero[0] in possible.losers(deed.makes) else hero[:4]
    return (*who, seen_behind(hero[4], False, possible.rows[deed.stand_behind]))
