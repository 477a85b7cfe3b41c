"""Worlds, schemes, runs and cases by chance; the same ones for the same seed."""

from unlikekeys.schemes import is_schemes
from unlikekeys.worlds import World

ANSWERS = {
    "put": ("done", "refused", "again"), "drop": ("done", "none", "again"), "look": ("there", "none", "again"),
    "move": ("done", "again"),
}


def chance_pattern(chance, slots, likely):
    return tuple(sorted((name, chance.choice(words)) for name, _, words in slots if chance.random() < likely))


def chance_world(chance, most_slots=3, lapses=True):
    houses = ("a", "b", "c")[:chance.randint(2, 3)]
    slots = tuple((name, chance.choice(houses), ("no", "row", "by")[:chance.choice((2, 2, 3))])
                  for name in chance.sample(("r", "s", "t"), chance.randint(1, most_slots)))
    for _ in range(1000):
        bears = tuple(sorted({chance_pattern(chance, slots, 0.6) for _ in range(chance.randint(1, 2))}))
        never = tuple(sorted({chance_pattern(chance, slots, 0.8) for _ in range(chance.randint(0, 1))}))
        some = []
        for _ in range(chance.randint(0, 1) if lapses else 0):
            house = chance.choice(houses)
            own = [slot for slot in slots if slot[1] == house]
            makes = chance_pattern(chance, own, 0.8)
            if makes:
                some.append((house, chance_pattern(chance, own, 0.8), makes))
        try:
            return World(houses, slots, bears, never, tuple(some))
        except ValueError:
            continue
    raise AssertionError("no world")


def chance_row(chance, world, scheme_watch, many):
    house = chance.choice(world.houses)
    own = [slot for slot in world.slots if slot[1] == house]
    word = chance.choice(("do", "ask"))
    flags = []
    if any(slot[0] in scheme_watch for slot in own):
        flags += [flag for flag in ("mark", "same") if chance.random() < 0.5]
    if word == "ask":
        flags += chance.choice(([], ["late"], ["kept"] if "mark" not in flags else ["late"]))
    return (word, house, chance_pattern(chance, own, 0.5), chance_pattern(chance, own, 0.5), tuple(sorted(flags)),
            chance.randrange(many), chance.randrange(many))


def chance_scheme(chance, world, name, most_rows=5):
    sort = chance.choice(("put", "put", "drop", "look", "move"))
    house = chance.choice(world.houses)
    watch = tuple(sorted(slot[0] for slot in world.slots if slot[1] == house and chance.random() < 0.7))
    many = chance.randint(2, most_rows)
    steps = chance.randint(1, many)
    rows = [chance_row(chance, world, watch, many) for _ in range(steps)]
    rows += [("say", chance.choice(ANSWERS[sort])) for _ in range(many - steps)]
    return (name, sort, watch, tuple(rows))


def chance_schemes(chance, world, most=2, most_rows=5):
    names = chance.sample(("p", "q", "ended"), chance.randint(1, most))
    schemes = tuple(chance_scheme(chance, world, name, most_rows) for name in names)
    assert is_schemes(world, schemes), schemes
    return schemes


def chance_event(chance, world, schemes, doers, letters):
    """An event of the right form, possible or not."""
    word = chance.choice(("begin", "step", "step", "step", "step", "stay", "leave", "come", "lapse"))
    if word == "begin":
        return (word, chance.choice(schemes)[0])
    most = {"come": letters, "lapse": len(world.lapses)}.get(word, doers)
    return (word, chance.randrange(most + 1))


def claim_world(chance, lapses=True):
    """A row in one of two houses, and perhaps a claim at one of them."""
    slots = [("ra", "a", ("no", "row")), ("rb", "b", ("no", "row"))]
    if chance.random() < 0.6:
        slots.append(chance.choice((("ca", "a", ("open", "shut")), ("ca", "b", ("open", "shut")))))
    bears = ((("ra", "row"),), (("rb", "row"),))
    never = ((("ra", "row"), ("rb", "row")),)
    some = ()
    if lapses and len(slots) == 3 and chance.random() < 0.3:
        some = ((slots[2][1], (("ca", "shut"),), (("ca", "open"),)),)
    return World(("a", "b"), tuple(slots), bears, never, some)


def line_pattern(chance, own, likely):
    return tuple(sorted((name, chance.choice(words)) for name, _, words in own if chance.random() < likely))


def line_scheme(chance, world, name, most_steps=4):
    """A scheme whose steps mostly go on to the next one."""
    sort = chance.choice(("put", "put", "put", "drop", "look", "move"))
    house = chance.choice(world.houses)
    watch = tuple(sorted(slot[0] for slot in world.slots if slot[1] == house)) if chance.random() < 0.6 else ()
    steps = chance.randint(1, most_steps)
    answers = ANSWERS[sort]
    rows = []
    for number in range(steps):
        house = chance.choice(world.houses)
        own = [slot for slot in world.slots if slot[1] == house]
        needs = line_pattern(chance, own, 0.8)
        makes = line_pattern(chance, own, 0.6) if chance.random() < 0.6 else ()
        word = chance.choice(("do", "do", "ask"))
        flags = []
        if any(slot[0] in watch for slot in own):
            flags = list(chance.choice(((), (), ("mark",), ("same",), ("mark", "same"))))
        if word == "ask":
            flags += chance.choice(([], ["late"], ["kept"] if "mark" not in flags else []))
        then = number + 1 if chance.random() < 0.85 else chance.randrange(steps + len(answers))
        other = steps + chance.randrange(len(answers)) if chance.random() < 0.8 else chance.randrange(steps)
        rows.append((word, house, needs, makes, tuple(sorted(flags)), then, other))
    return (name, sort, watch, tuple(rows) + tuple(("say", answer) for answer in answers))


def line_schemes(chance, world, most=2, most_steps=4):
    names = chance.sample(("p", "q", "ended"), chance.randint(1, most))
    schemes = tuple(line_scheme(chance, world, name, most_steps) for name in names)
    assert is_schemes(world, schemes), schemes
    return schemes
