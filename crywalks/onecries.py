"""One cry: which single cries, and when, make a part that ends go on for ever."""

from crywalks.deeds import without_person
from crywalks.ends import all_cries, part_levels
from crywalks.errors import NoCount, NoCries, NoSuch
from crywalks.parts import part_links, turned_about, walks_from
from crywalks.walks import standing_at
from crywalks.webs import is_count

# By the state now, behind which numbers of beats one cried who isn't still: who is hoarse did so one beat ago.
CALLS_NOW = ((), (0,), (-1,))


def calls_of(web, spot):
    """Behind which numbers of beats whoever stands there cries, in a part that ends."""
    return list(CALLS_NOW[web.state(spot)]) + all_cries(web, spot)


def ways_out(web, person):
    """The ties beside a person, those in one list that hang together without it.

    Each is told as a tuple (goal, piece, calls): where it leads, the piece that leads there, and the calls of the
    hearer on it who stands next to the person.
    """
    groups = {}
    for goal, length, turn, piece in part_links(web, web.part(person))[person]:
        tie, start, end = piece
        near = standing_at(web, tie, 1 if start == 0 else length - 1)
        key = without_person(web, person).part(goal)[0]
        groups.setdefault(key, []).append((goal, piece, calls_of(web, near)))
    return list(groups.values())


def way_round(calls, groups, beats):
    """Two ways out that hang together, the hearer on the first alone being hoarse behind so many beats, or None.

    None, too, where the person with these calls isn't still then. Who is put from 0 to 1 turns each step from there
    by 1 less, but those to the hoarse: so the ring out on the first way and home on the second, which turned by 0,
    turns by 1.
    """
    if beats in calls or beats - 1 in calls:
        return None
    for ways in groups:
        hoarse = [way for way in ways if beats - 1 in way[2]]
        others = [way for way in ways if beats - 1 not in way[2]]
        if hoarse and others:
            return (hoarse[0], others[0])
    return None


def beats_of(web, person):
    """The numbers of beats behind which the person, put to 1, makes its part go on for ever, rising."""
    calls = calls_of(web, person)
    groups = ways_out(web, person)
    # Who is hoarse cried one beat ago.
    beats = sorted(set([call + 1 for ways in groups for way in ways for call in way[2]]))
    return [many for many in beats if way_round(calls, groups, many) is not None]


def check_ends(web, person):
    """Refuses webs of rounds, and parts that don't end."""
    if web.rounds():
        raise NoCries("a web of rounds")
    part_levels(web, person)


def one_cries(web, person):
    """All tuples (beat, person) of the person's part such that this one cry makes it go on for ever."""
    if not web.has_person(person):
        raise NoSuch(person)
    check_ends(web, person)
    part = web.part(person)
    told = [(beats, number) for number, member in enumerate(part) for beats in beats_of(web, member)]
    return [(beats, part[number]) for beats, number in sorted(told)]


def ring_then(web, person, beat):
    """A ring of turn above 0, the person being put to 1 behind so many beats, or None where one_cries tells none."""
    if not web.has_person(person):
        raise NoSuch(person)
    if not is_count(beat):
        raise NoCount("no number of beats")
    check_ends(web, person)
    found = way_round(calls_of(web, person), ways_out(web, person), beat)
    if found is None:
        return None
    out, home = found
    rest = without_person(web, person)
    walks = walks_from(part_links(rest, rest.part(out[0])), out[0])
    return [out[1]] + walks[home[0]] + turned_about([home[1]])
