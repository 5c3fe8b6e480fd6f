"""Levels of a part that ends, or a ring by which it doesn't."""

from crywalks.errors import NoSuch
from crywalks.parts import part_links, pieces_turn, told_part, turned_about, walks_from
from crywalks.webs import is_whole


def levels_or_ring(web, person):
    """Of the person's part a tuple ("levels", dict), its first person having 0, or ("ring", ring of turn above 0)."""
    if not web.has_person(person):
        raise NoSuch(person)
    part = web.part(person)
    links = part_links(web, part)
    walks = walks_from(links, part[0])
    levels = {member: pieces_turn(web, walks[member]) for member in part}
    for member in part:
        for goal, length, turn, piece in links[member]:
            # Where a tie turns by less than it is to, it turns by more the other way, which is a link, too.
            if levels[member] + turn > levels[goal]:
                return ("ring", walks[member] + [piece] + turned_about(walks[goal]))
    return ("levels", levels)


def are_levels(web, thing):
    """Whether it is levels of some part of the web, of anything."""
    part = told_part(web, thing)
    if part is None or not all([is_whole(thing[person]) for person in part]):
        return False
    links = part_links(web, part)
    return all([thing[person] + link[2] == thing[link[0]] for person in part for link in links[person]])
