"""Rates: how often in the long run, the slopes that show it, and how far above a count ever is."""

from crywalks.errors import NoSuch
from crywalks.fractions import fraction, is_fraction, is_less, minus, plus, times
from crywalks.knots import links_of
from crywalks.parts import part_links, told_part, turned_about
from crywalks.walks import ring_read


def longer(links, walks, rate):
    """The best walks of one link more, by their ends.

    A walk is a tuple (gain, back, pieces): by how much its turn is above the rate times its length, times the
    rate's lower number; its length, below 0, so that of two of the same gain the shorter is the better; its pieces.
    """
    upper, lower = rate
    told = {}
    for spot in walks:
        gain, back, pieces = walks[spot]
        for goal, length, turn, piece in links[spot]:
            walk = (gain + turn * lower - upper * length, back - length, pieces + [piece])
            if goal not in told or told[goal][:2] < walk[:2]:
                told[goal] = walk
    return told


def best_walks(links, first, rate, most):
    """A list of the best walks from the first spot, by their ends: of no link, of one, and so on, up to so many."""
    rows = [{first: (0, 0, [])}]
    while len(rows) <= most:
        rows.append(longer(links, rows[-1], rate))
    return rows


def better_ring(links, rate):
    """A ring whose turn is more than the rate times its length, None where there's none."""
    best = 0
    ring = None
    for person in links:
        # If there is one, there is one that comes to no person twice.
        for row in best_walks(links, person, rate, len(links)):
            if person in row and row[person][0] > best:
                best = row[person][0]
                ring = row[person][2]
    return ring


def best_ring(web, links, person):
    """A tuple (rate, ring) of the part, which has a tie beside the person."""
    there = [links[person][0][3]]
    ring = there + turned_about(there)
    rate = (0, 1)
    better = better_ring(links, rate)
    while better is not None:
        ring = better
        length, turn = ring_read(web, ring)
        rate = fraction(turn, length)
        better = better_ring(links, rate)
    return (rate, ring)


def rate_of(web, person):
    """A tuple (rate, ring or None, slopes) of the person's part."""
    if not web.has_person(person):
        raise NoSuch(person)
    part = web.part(person)
    links = part_links(web, part)
    if len(part) == 1:
        return ((0, 1), None, {person: (0, 1)})
    rate, ring = best_ring(web, links, person)
    rows = best_walks(links, part[0], rate, len(part) - 1)
    gains = {member: max([row[member][0] for row in rows if member in row]) for member in part}
    return (rate, ring, {member: fraction(gains[member], rate[1]) for member in part})


def is_steep(slopes, rate, person, link):
    """Whether a link's turn is more than the rate and the slopes at its ends allow."""
    goal, length, turn, piece = link
    rise = minus(slopes[goal], slopes[person])
    return is_less(plus(times(rate, (length, 1)), rise), (turn, 1))


def do_hold(web, rate, thing):
    """Whether rate is a fraction, and thing slopes by it of some part of the web, of anything as both."""
    part = told_part(web, thing)
    if part is None or not is_fraction(rate) or not all([is_fraction(thing[person]) for person in part]):
        return False
    links = part_links(web, part)
    return not any([is_steep(thing, rate, person, link) for person in part for link in links[person]])


def above_of(web, person):
    """A tuple (fraction, beats): how far above the rate a person's count ever is, and behind how many beats first."""
    rate, ring, slopes = rate_of(web, person)
    links = links_of(web, [])
    # By the rate no round gains anything, so that the best walk comes to no knot twice.
    rows = best_walks(links, person, rate, len(links) - 1)
    gain, back = max([walk[:2] for row in rows for walk in row.values()])
    return (fraction(gain, rate[1]), -back)
