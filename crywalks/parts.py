"""Parts, gone along whole ties from person to person."""

from crywalks.knots import links_along
from crywalks.walks import turn_along


def part_links(web, part):
    """A dict from each person of a part to the links from it along whole ties."""
    links = {person: [] for person in part}
    for tie in web.ties():
        if web.ends(tie)[0] in links:
            for person, link in links_along(web, tie, [0, web.length(tie)]):
                links[person].append(link)
    return links


def walks_from(links, first):
    """A dict from each person to whom links lead from the first one to the pieces of a walk there, of fewest ties."""
    walks = {first: []}
    waiting = [first]
    while waiting:
        person = waiting.pop(0)
        for goal, length, turn, piece in links[person]:
            if goal not in walks:
                walks[goal] = walks[person] + [piece]
                waiting.append(goal)
    return walks


def pieces_turn(web, pieces):
    """What the turns of pieces come to, perhaps of none."""
    return sum([turn_along(web, tie, start, goal) for tie, start, goal in pieces])


def turned_about(pieces):
    """The pieces of the same walk gone the other way."""
    return [(tie, goal, start) for tie, start, goal in pieces[::-1]]


def told_part(web, thing):
    """The part whose persons are just the keys of this dict, of anything; None where there's none."""
    if not isinstance(thing, dict):
        return None
    keys = list(thing)
    if len(keys) == 0 or not all([web.has_person(key) for key in keys]):
        return None
    part = web.part(keys[0])
    return part if sorted(part) == sorted(keys) else None
