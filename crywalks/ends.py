"""Which parts end, how often each spot there is set altogether, and when last."""

from crywalks.errors import Endless, NoSuch
from crywalks.knots import least_lengths, links_of
from crywalks.levels import levels_or_ring
from crywalks.walks import turn_along


def does_end(web, person):
    """Whether nobody in the person's part is set any more behind some number of beats."""
    return levels_or_ring(web, person)[0] == "levels"


def part_levels(web, person):
    """The levels of the person's part, refused where it doesn't end."""
    kind, told = levels_or_ring(web, person)
    if kind == "ring":
        raise Endless(web.part(person)[0])
    return told


def level_at(web, levels, spot):
    """The level of whoever stands there, by those of the part's persons."""
    if web.has_person(spot):
        return levels[spot]
    tie, place = spot
    return levels[web.ends(tie)[0]] + turn_along(web, tie, 0, place)


def all_cries(web, spot):
    """The numbers of all beats to come that set whoever stands there, in a part that ends."""
    if not web.has_spot(spot):
        raise NoSuch(spot)
    person = spot if web.has_person(spot) else web.ends(spot[0])[0]
    levels = part_levels(web, person)
    lengths = least_lengths(links_of(web, [] if web.has_person(spot) else [spot]), spot)
    # A walk turns by what its end stands higher than its begin. No still hearer stands higher than the knots at
    # both ends of its stretch, so that nobody stands nearer, and as high, as some knot.
    rises = {goal: level_at(web, levels, goal) - level_at(web, levels, spot) for goal in lengths}
    top = max(list(rises.values()))
    return [min([lengths[goal] for goal in lengths if rises[goal] >= nth]) for nth in range(1, top + 1)]


def altogether(web, spot):
    """How often whoever stands there is set from now on, in a part that ends."""
    return len(all_cries(web, spot))


def last_beat(web, spot):
    """The number of the last beat that sets whoever stands there, in a part that ends; 0 where none does."""
    return max(all_cries(web, spot), default=0)
