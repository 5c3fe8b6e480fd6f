"""Knots: the persons and the told hearers of a web, and how far they are from one another."""

from crywalks.errors import NoSuch
from crywalks.walks import standing_at, turn_along


def knot_spots(web):
    """The spots of persons, in order, then of told hearers, by ties in order, places rising."""
    told = [(tie, place) for tie in web.ties() for place, state in web.hearers(tie)]
    return web.persons() + told


def stops_on(web, tie, more):
    """The places of a tie's ends, of its told hearers, and of those spots in more that stand on it, rising."""
    told = [place for place, state in web.hearers(tie)]
    asked = [place for name, place in more if name == tie]
    return sorted(set([0, web.length(tie)] + told + asked))


def links_along(web, tie, stops):
    """Tuples (spot, link): the links from each of these places of a tie to the next one, and back.

    A link is a tuple (spot, length, turn, piece), where it leads, and the piece of a walk that it is.
    """
    told = []
    for low, high in zip(stops, stops[1:]):
        one = standing_at(web, tie, low)
        other = standing_at(web, tie, high)
        turn = turn_along(web, tie, low, high)
        told.append((one, (other, high - low, turn, (tie, low, high))))
        told.append((other, (one, high - low, -turn, (tie, high, low))))
    return told


def links_of(web, more):
    """A dict from each knot, and each hearer's spot in more, to the links from it to the nearest others.

    All hearers between the ends of a link are still, so that whoever turns back there, or stays, has won nothing
    by it: of least length, and of greatest turn, there are always walks that are links one behind another.
    """
    links = {spot: [] for spot in knot_spots(web) + more}
    for tie in web.ties():
        for spot, link in links_along(web, tie, stops_on(web, tie, more)):
            links[spot].append(link)
    return links


def least_lengths(links, source):
    """A dict from each spot that hangs together with the source to the least length of a walk from there."""
    lengths = {}
    waiting = {source: 0}
    while waiting:
        spot = min(list(waiting), key=lambda one: waiting[one])
        length = waiting.pop(spot)
        lengths[spot] = length
        for goal, far, turn, piece in links[spot]:
            if goal not in lengths:
                waiting[goal] = min(length + far, waiting.get(goal, length + far))
    return lengths


class Knots:
    """The spots of a web's persons and told hearers."""

    def __init__(self, web):
        self.links = links_of(web, [])
        self.whole = web

    def spots(self):
        """Persons in order, then told hearers, by ties in order, places rising."""
        return list(self.links)

    def least(self, one, other):
        """The least length of a walk from one of the spots to another, None where there's none."""
        for thing in (one, other):
            # Of spots alone it is known that they are keys.
            if not self.whole.has_spot(thing) or thing not in self.links:
                raise NoSuch(thing)
        return least_lengths(self.links, one).get(other)
