"""A beat, done by all at once."""

from crywalks.errors import Crowded
from crywalks.walks import standing_at
from crywalks.webs import MOST_HEARERS, Web


def next_to(web, spot):
    """The spots next to a spot, one for each tie that leads to it."""
    if web.has_person(spot):
        near = []
        for tie in web.beside(spot):
            place = 1 if web.ends(tie)[0] == spot else web.length(tie) - 1
            near.append(standing_at(web, tie, place))
        return near
    tie, place = spot
    return [standing_at(web, tie, place - 1), standing_at(web, tie, place + 1)]


def state_next(web, spot):
    """The state of whoever stands there behind the next beat."""
    state = web.state(spot)
    then = (state + 1) % 3
    # In cries only the still ones look who is next to them; in rounds all do.
    if state != 0 and not web.rounds():
        return then
    near = [web.state(one) for one in next_to(web, spot)]
    return then if then in near else state


def is_set_next(web, person):
    """Whether the next beat sets the person."""
    then = state_next(web, person)
    if web.rounds():
        return then != web.state(person)
    return then == 1


def set_next(web):
    """The persons, in order, whom the next beat sets."""
    return [person for person in web.persons() if is_set_next(web, person)]


def stirred_places(web, tie):
    """The places between a tie's ends whose hearers may not be still behind the next beat, rising."""
    length = web.length(tie)
    stirring = [0, length] + [place for place, state in web.hearers(tie)]
    near = [place + step for place in stirring for step in (-1, 0, 1)]
    return sorted(set([place for place in near if 0 < place < length]))


def hearers_next(web, tie):
    """What is told of a tie's hearers behind the next beat."""
    told = [(place, state_next(web, (tie, place))) for place in stirred_places(web, tie)]
    return [(place, state) for place, state in told if state != 0]


def web_with(web, states, hearers):
    """The web with other states, by persons, and other told hearers, by ties."""
    if sum([len(hearers[tie]) for tie in web.ties()]) > MOST_HEARERS:
        raise Crowded(MOST_HEARERS)
    persons = [(person, states[person]) for person in web.persons()]
    ties = []
    for tie in web.ties():
        one, other = web.ends(tie)
        ties.append((tie, one, other, web.length(tie), tuple(hearers[tie])))
    return Web(persons, ties, rounds=web.rounds())


def beat(web):
    """The web behind the next beat."""
    states = {person: state_next(web, person) for person in web.persons()}
    hearers = {tie: hearers_next(web, tie) for tie in web.ties()}
    return web_with(web, states, hearers)
