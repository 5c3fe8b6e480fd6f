"""Counts, cries and states ahead, however far."""

from crywalks.ahead import Ahead
from crywalks.errors import NoCount, NoSuch
from crywalks.webs import is_count


def count_behind(web, spot, beats):
    """How many of the next beats, so many, set whoever stands there."""
    if not web.has_spot(spot):
        raise NoSuch(spot)
    if not is_count(beats):
        raise NoCount("no number of beats")
    return Ahead(web, spot).behind(spot, beats)[0]


def cry_of(web, spot, *, nth=1):
    """The number of the beat that sets whoever stands there for the nth time, None where there's none."""
    if not web.has_spot(spot):
        raise NoSuch(spot)
    if not is_count(nth) or nth == 0:
        raise NoCount("no number of a cry")
    return Ahead(web, spot).cry(spot, nth)


def state_behind(web, spot, beats):
    """The state of whoever stands there behind so many beats."""
    if not web.has_spot(spot):
        raise NoSuch(spot)
    if not is_count(beats):
        raise NoCount("no number of beats")
    return Ahead(web, spot).state_then(spot, beats)


def counts_behind(web, beats):
    """A dict from all persons, in order, to their counts behind so many beats."""
    if not is_count(beats):
        raise NoCount("no number of beats")
    counts = {}
    for part in web.parts():
        ahead = Ahead(web, part[0])
        for person in part:
            counts[person] = ahead.behind(person, beats)[0]
    return {person: counts[person] for person in web.persons()}
