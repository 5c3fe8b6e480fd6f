"""Webs so many beats on, in one go."""

from crywalks.ahead import Ahead
from crywalks.beats import web_with
from crywalks.errors import NoCount
from crywalks.knots import stops_on
from crywalks.walks import standing_at
from crywalks.webs import MOST_HEARERS, is_count


def calls_by(ahead, spot, beats):
    """How often a knot has cried behind so many beats, now too."""
    now = 1 if ahead.now[spot] == 1 else 0
    return now + ahead.behind(spot, beats)[0]


def call_of(ahead, spot, nth):
    """Behind how many beats a knot cries for the nth time, now too; None where there's none."""
    if ahead.now[spot] != 1:
        return ahead.cry(spot, nth)
    return 0 if nth == 1 else ahead.cry(spot, nth - 1)


def ways_gone(ahead, start, goal, far, beats):
    """How far from the start those cries have come that are on their way to the goal behind so many beats.

    Between the two, so far apart, all are still now. The nth cries of both meet and die on their way; where one
    has died, those ahead of it have, too. If nothing else, the start's cry makes the goal answer when it comes there.
    More than a web can have aren't looked for.
    """
    told = []
    nth = calls_by(ahead, start, beats - 1) if beats > 0 else 0
    while nth > 0 and len(told) <= MOST_HEARERS:
        call = call_of(ahead, start, nth)
        answer = call_of(ahead, goal, nth)
        if beats - call >= far or call + answer + far < 2 * beats:
            break
        told.append(beats - call)
        nth -= 1
    return told


def criers_between(web, ahead, tie, low, high, beats):
    """The places of those between two knots of a tie who cry behind so many beats."""
    one = standing_at(web, tie, low)
    other = standing_at(web, tie, high)
    far = high - low
    up = [low + way for way in ways_gone(ahead, one, other, far, beats)]
    return up + [high - way for way in ways_gone(ahead, other, one, far, beats)]


def states_along(web, ahead, tie, beats):
    """A dict from places of a tie to the states that hearers there have behind so many beats, not all still."""
    states = {}
    for place, state in web.hearers(tie):
        states[place] = ahead.state_then((tie, place), beats)
    stops = stops_on(web, tie, [])
    for low, high in zip(stops, stops[1:]):
        if high - low > 1:
            for place in criers_between(web, ahead, tie, low, high, beats):
                states[place] = 1
            # Who cried one beat ago is hoarse; ahead of the first beat nobody there did.
            for place in criers_between(web, ahead, tie, low, high, beats - 1):
                states[place] = 2
    return states


def hearers_then(web, ahead, tie, beats):
    """What is told of a tie's hearers behind so many beats."""
    states = states_along(web, ahead, tie, beats)
    return [(place, states[place]) for place in sorted(states) if states[place] != 0]


def gone(web, beats):
    """The web as it stands behind so many beats."""
    if not is_count(beats):
        raise NoCount("no number of beats")
    states = {}
    hearers = {}
    for part in web.parts():
        ahead = Ahead(web, part[0])
        for person in part:
            states[person] = ahead.state_then(person, beats)
            for tie in web.beside(person):
                if tie not in hearers:
                    hearers[tie] = hearers_then(web, ahead, tie, beats)
    return web_with(web, states, hearers)
