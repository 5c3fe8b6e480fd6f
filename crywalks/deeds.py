"""What may be done to a web: each deed tells another one, otherwise alike."""

from crywalks.errors import Alone, Crying, NoLength, NoName, NoState, NoSuch, Same, Taken, TooMany
from crywalks.webs import MOST_PERSONS, MOST_TIES, Web, is_length, is_name, is_state


def check_free(web, name):
    """Refuses what is no name, and a name that a person or a tie has."""
    if not is_name(name):
        raise NoName(name)
    if web.has_person(name) or web.has_tie(name):
        raise Taken(name)


def check_person(web, person):
    """Refuses who is no person of the web."""
    if not web.has_person(person):
        raise NoSuch(person)


def check_tie(web, tie):
    """Refuses what is no tie of the web."""
    if not web.has_tie(tie):
        raise NoSuch(tie)


def check_state(state):
    """Refuses what is no state."""
    if not is_state(state):
        raise NoState("no state")


def check_length(web, length):
    """Refuses what is no length of a tie of the web."""
    if not is_length(length, web.rounds()):
        raise NoLength("no length of a tie")


def with_state(web, person, state):
    """The web with a person put to a state."""
    check_person(web, person)
    check_state(state)
    persons = [(name, state if name == person else now) for name, now in web.person_rows]
    return Web(persons, web.tie_rows, rounds=web.rounds())


def with_tie(web, name, one, other, *, length=None):
    """The web with a tie laid, behind all others, all its hearers still."""
    check_free(web, name)
    check_person(web, one)
    check_person(web, other)
    if one == other:
        raise Same(one)
    if length is None:
        length = 1 if web.rounds() else 2
    check_length(web, length)
    if len(web.tie_rows) >= MOST_TIES:
        raise TooMany(MOST_TIES)
    return Web(web.person_rows, web.tie_rows + [(name, one, other, length, ())], rounds=web.rounds())


def without_tie(web, tie):
    """The web with a tie cut."""
    check_tie(web, tie)
    return Web(web.person_rows, [row for row in web.tie_rows if row[0] != tie], rounds=web.rounds())


def with_length(web, tie, length):
    """The web with a tie stretched to another length."""
    check_tie(web, tie)
    check_length(web, length)
    if len(web.hearers(tie)) > 0:
        raise Crying(tie)
    ties = [(name, one, other, length if name == tie else now, told) for name, one, other, now, told in web.tie_rows]
    return Web(web.person_rows, ties, rounds=web.rounds())


def with_person(web, name, *, state=0):
    """The web with a person come, behind all others."""
    check_free(web, name)
    check_state(state)
    if len(web.person_rows) >= MOST_PERSONS:
        raise TooMany(MOST_PERSONS)
    return Web(web.person_rows + [(name, state)], web.tie_rows, rounds=web.rounds())


def without_person(web, person):
    """The web with a person left, and the ties beside it."""
    check_person(web, person)
    if len(web.person_rows) == 1:
        raise Alone(person)
    persons = [row for row in web.person_rows if row[0] != person]
    return Web(persons, [row for row in web.tie_rows if person not in row[1:3]], rounds=web.rounds())
