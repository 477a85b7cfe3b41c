"""Steps: what an event of one doer or one letter does, whoever else is on the way."""

from unlikekeys.worlds import pattern_holds, stand_made

DOER_WORDS = ("step", "stay", "leave")


def fresh_doer(scheme):
    return (scheme[0], 0, False, "here")


def scheme_named(schemes, name):
    """The scheme with this name, None if there is none."""
    for scheme in schemes:
        if scheme[0] == name:
            return scheme
    return None


def takes_marks(scheme, makes):
    """Whether making this pattern takes the marks of this scheme's doers and letters."""
    return any([slot in scheme[2] for slot, _ in makes])


def unmarked(who):
    return (who[0], who[1], False, who[3])


def arrived(scheme, number, marked):
    """The doer that goes to this row: its description, or ("ended", answer)."""
    row = scheme[3][number]
    if row[0] == "say":
        return ("ended", row[1])
    return (scheme[0], number, marked, "here")


def has_ended(doer):
    # The length tells: a scheme may be called "ended", too.
    return len(doer) == 2


def stepped(scheme, who, done):
    """The doer behind its step, done or not."""
    _, number, marked, how = who
    _, _, _, makes, flags, then, other = scheme[3][number]
    if how != "here":
        return arrived(scheme, then if how == "then" else other, marked)
    if not done:
        return arrived(scheme, other, marked)
    return arrived(scheme, then, "mark" in flags or (marked and not takes_marks(scheme, makes)))


def stayed(scheme, who, done):
    """The doer behind its stay, done or not."""
    name, number, marked, _ = who
    _, _, _, makes, flags, _, _ = scheme[3][number]
    how = "here"
    if "kept" in flags:
        how = "then" if done else "other"
    return (name, number, marked and not (done and takes_marks(scheme, makes)), how)


def departed(scheme, who):
    """The doer behind its leaving, and its letter."""
    name, number, marked, _ = who
    return arrived(scheme, scheme[3][number][6], marked), (name, number, marked, "letter")


def is_done(world, row, marked, stand):
    """Whether a step by this row is done at the stand."""
    return (marked or "same" not in row[4]) and pattern_holds(world.slots, row[2], stand)


def can_stay(row, done):
    return row[0] == "ask" and ("kept" in row[4] or (done and row[3] != ()))


def can_leave(row):
    return row[0] == "ask" and "late" in row[4]


def acted(world, scheme, who, word, stand):
    """What the event does: (pattern that is made, the doer behind it, the letter that it leaves).

    None if the event is not possible. There is no doer behind the event of a letter.
    """
    _, number, marked, how = who
    row = scheme[3][number]
    if word == "step" and how in ("then", "other"):
        return (), stepped(scheme, who, False), None
    done = is_done(world, row, marked, stand)
    makes = row[3] if done else ()
    if word == "come" and how == "letter":
        return makes, None, None
    if how != "here":
        return None
    if word == "step":
        return makes, stepped(scheme, who, done), None
    if word == "stay" and can_stay(row, done):
        return makes, stayed(scheme, who, done), None
    if word == "leave" and can_leave(row):
        doer, letter = departed(scheme, who)
        return (), doer, letter
    return None


class Deed:
    """An event that is possible at a stand, of a doer, of a letter or of a lapse, and what it does."""

    def __init__(self, word, who, stands, makes, who_behind, letter_behind):
        self.word = word
        # The description of a doer or a letter, or the number of a lapse.
        self.who = who
        self.stand_ahead, self.stand_behind = stands
        self.makes = makes
        # What the doer is behind the event, and the letter that it leaves; None if there is none.
        self.who_behind = who_behind
        self.letter_behind = letter_behind


def deeds_of(world, scheme, who, stand):
    """All deeds of this doer or letter of the scheme at the stand."""
    deeds = []
    for word in ("come",) if who[3] == "letter" else DOER_WORDS:
        what = acted(world, scheme, who, word, stand)
        if what is not None:
            makes, doer, letter = what
            deeds.append(Deed(word, who, (stand, stand_made(world.slots, stand, makes)), makes, doer, letter))
    return deeds


def lapse_deeds(world, stand):
    """All lapses that may happen at the stand, as deeds."""
    deeds = []
    for number, (_, needs, makes) in enumerate(world.lapses):
        if pattern_holds(world.slots, needs, stand):
            deeds.append(Deed("lapse", number, (stand, stand_made(world.slots, stand, makes)), makes, None, None))
    return deeds
