"""Parts the plain way: who belongs to one, whether it ends, all its rings; and webs that end."""

import random

from plain import LETTERS, Plain, told_beats

from crywalks.webs import Web


def spots_of(web, part):
    """All spots of a part, persons and hearers."""
    return [spot for spot in Plain(web).states
            if (spot if isinstance(spot, str) else web.ends(spot[0])[0]) in part]


def beats_enough(web):
    """A number of beats behind which nobody is set any more, if that ever happens."""
    return len(Plain(web).states) + 1


def goes_on(web, states, spots):
    """Whether some of the spots are set for ever, all standing so."""
    plain = Plain(web)
    plain.states = dict(states)
    for _ in range(beats_enough(web)):
        plain.beat()
    # A beat that sets nobody is the last one that could have set somebody.
    return any(spot in spots for spot in plain.beat())


def cries_till(web, beats):
    """A dict from all spots to the numbers of the beats, up to so many, that set them."""
    rows = told_beats(web, beats)
    return {spot: [beat for beat in range(1, beats + 1) if rows[beat][0][spot] > rows[beat - 1][0][spot]]
            for spot in rows[0][0]}


def ways(web, person):
    """Tuples (piece, goal), a whole tie each, from a person."""
    told = []
    for tie in web.beside(person):
        one, other = web.ends(tie)
        length = web.length(tie)
        told.append(((tie, 0, length), other) if person == one else ((tie, length, 0), one))
    return told


def all_rings(web, part):
    """All rings of a part that come to no person twice, also those along a tie and back."""
    told = []

    def go(begin, at, seen, ring):
        for piece, goal in ways(web, at):
            if goal == begin:
                told.append(ring + [piece])
            elif goal not in seen:
                go(begin, goal, seen + [goal], ring + [piece])

    for person in part:
        go(person, person, [person], [])
    return told


def person_stops(web, ring):
    """The persons at which the pieces of a ring begin."""
    return [web.ends(tie)[0 if start == 0 else 1] for tie, start, goal in ring]


def trees(seed, many, longest=7):
    """Webs of cries that always end, for they have no ring but back and forth; one or two parts, told hearers."""
    dice = random.Random(seed)
    webs = []
    for _ in range(many):
        names = list(LETTERS[:dice.randint(2, 6)])
        dice.shuffle(names)
        ties = []
        left = 12
        for at in range(1, len(names)):
            if dice.random() < 0.85:
                ends = [names[dice.randint(0, at - 1)], names[at]]
                dice.shuffle(ends)
                length = dice.randint(2, longest)
                told = tuple((place, dice.choice((1, 1, 2))) for place in range(1, length) if dice.random() < 0.4)
                told = told[:left]
                left -= len(told)
                ties.append(("t" + LETTERS[at], *ends, length, told))
        persons = [(name, dice.choice((0, 0, 1, 2))) for name in names]
        dice.shuffle(persons)
        webs.append(Web(persons, ties))
    return webs


def ending_rings(seed, many, longest=6):
    """Webs of cries, one ring or two, of which just those were kept that end."""
    dice = random.Random(seed)
    webs = []
    while len(webs) < many:
        count = dice.randint(2, 4)
        names = LETTERS[:count]
        ties = []
        left = 12
        for number in range(count + dice.randint(0, 1)):
            length = dice.randint(2, longest)
            told = tuple((place, dice.choice((1, 2))) for place in range(1, length) if dice.random() < 0.25)[:left]
            left -= len(told)
            ends = (names[number % count], names[(number + 1) % count])
            ties.append(("t" + LETTERS[number], *ends, length, told))
        web = Web([(name, dice.choice((0, 0, 0, 1, 2))) for name in names], ties)
        if not goes_on(web, Plain(web).states, spots_of(web, web.persons())):
            webs.append(web)
    return webs
