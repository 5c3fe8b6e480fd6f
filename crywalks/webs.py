"""Webs: persons, the ties between them, and the hearers who stand along the ties."""

from crywalks.errors import NoSuch, NoWeb

MOST_HEARERS = 12
MOST_PERSONS = 8
MOST_TIES = 12
LONGEST = 10 ** 30
LONGEST_NAME = 8


def is_whole(thing):
    """Whether it is a whole number: Python takes True and False for some, the document doesn't."""
    return isinstance(thing, int) and not isinstance(thing, bool)


def is_count(thing):
    """Whether it is a whole number from 0 on."""
    return is_whole(thing) and thing >= 0


def is_name(thing):
    """Whether it is a text of one to eight small letters, a to z."""
    if not isinstance(thing, str) or not 1 <= len(thing) <= LONGEST_NAME:
        return False
    return all(["a" <= letter <= "z" for letter in thing])


def is_state(thing):
    """Whether it is a state, of a person or a hearer."""
    return is_whole(thing) and 0 <= thing <= 2


def is_length(thing, rounds):
    """Whether a tie may be so long, in rounds or in cries."""
    if rounds:
        return is_whole(thing) and thing == 1
    return is_whole(thing) and 2 <= thing <= LONGEST


def is_tuple_of(thing, many):
    """Whether it is a tuple of so many things."""
    return isinstance(thing, tuple) and len(thing) == many


def are_ends(one, other, states):
    """Whether these are two unlike persons among those who have states."""
    # A list is no key of a dict: the dict is asked for texts alone.
    if not isinstance(one, str) or not isinstance(other, str):
        return False
    return one in states and other in states and one != other


def are_hearers(thing, length):
    """Whether it is what is told of the hearers of a tie of that length."""
    if not isinstance(thing, tuple):
        return False
    # A tie of length 1 has no place between its ends, so rounds need no rule of their own.
    ahead = 0
    for hearer in thing:
        if not is_tuple_of(hearer, 2):
            return False
        place, state = hearer
        if not is_whole(place) or not ahead < place < length:
            return False
        if not is_state(state) or state == 0:
            return False
        ahead = place
    return True


def checked_persons(persons):
    """A dict from the persons' names to their states, in order."""
    if not isinstance(persons, list):
        raise NoWeb("persons", "")
    states = {}
    for number, person in enumerate(persons):
        if not is_tuple_of(person, 2):
            raise NoWeb("person", str(number))
        name, state = person
        if not is_name(name):
            raise NoWeb("name", str(number))
        if name in states:
            raise NoWeb("again", name)
        if not is_state(state):
            raise NoWeb("state", name)
        states[name] = state
    if not 1 <= len(states) <= MOST_PERSONS:
        raise NoWeb("many", "persons")
    return states


def checked_ties(ties, states, rounds):
    """A dict from the ties' names to their whole tuples, in order."""
    if not isinstance(ties, list) and not is_tuple_of(ties, 0):
        raise NoWeb("ties", "")
    laid = {}
    for number, tie in enumerate(ties):
        if not is_tuple_of(tie, 5):
            raise NoWeb("tie", str(number))
        name, one, other, length, hearers = tie
        if not is_name(name):
            raise NoWeb("name", str(number))
        if name in states or name in laid:
            raise NoWeb("again", name)
        if not are_ends(one, other, states):
            raise NoWeb("ends", name)
        if not is_length(length, rounds):
            raise NoWeb("length", name)
        if not are_hearers(hearers, length):
            raise NoWeb("hearers", name)
        laid[name] = (name, one, other, length, tuple([(place, state) for place, state in hearers]))
    if len(laid) > MOST_TIES:
        raise NoWeb("many", "ties")
    if sum([len(row[4]) for row in laid.values()]) > MOST_HEARERS:
        raise NoWeb("many", "hearers")
    return laid


class Web:
    """A web of cries or of rounds, as it stands: a value, which nothing changes."""

    def __init__(self, persons, ties=(), *, rounds=False):
        self.in_rounds = bool(rounds)
        self.states = checked_persons(persons)
        self.laid = checked_ties(ties, self.states, self.in_rounds)
        # A dict is equal to one in another order, a web isn't: hence the rows beside the dicts.
        self.person_rows = list(self.states.items())
        self.tie_rows = list(self.laid.values())

    def rounds(self):
        """Whether it is a web of rounds."""
        return self.in_rounds

    def persons(self):
        """The persons' names, in order."""
        return list(self.states)

    def ties(self):
        """The ties' names, in order."""
        return list(self.laid)

    def has_person(self, thing):
        """Whether it is the name of a person here."""
        return isinstance(thing, str) and thing in self.states

    def has_tie(self, thing):
        """Whether it is the name of a tie here."""
        return isinstance(thing, str) and thing in self.laid

    def has_hearer(self, thing):
        """Whether it is the tuple (tie, place) of a hearer here."""
        if not is_tuple_of(thing, 2):
            return False
        tie, place = thing
        return self.has_tie(tie) and is_whole(place) and 0 < place < self.length(tie)

    def has_spot(self, thing):
        """Whether somebody stands there."""
        return self.has_person(thing) or self.has_hearer(thing)

    def state(self, spot):
        """The state of whoever stands there."""
        if self.has_person(spot):
            return self.states[spot]
        if not self.has_hearer(spot):
            raise NoSuch(spot)
        tie, place = spot
        for told, state in self.hearers(tie):
            if told == place:
                return state
        return 0

    def tie_row(self, tie):
        """The whole tuple of a tie."""
        if not self.has_tie(tie):
            raise NoSuch(tie)
        return self.laid[tie]

    def ends(self, tie):
        """The tie's one and its other."""
        row = self.tie_row(tie)
        return (row[1], row[2])

    def length(self, tie):
        """How long the tie is."""
        return self.tie_row(tie)[3]

    def hearers(self, tie):
        """The tuples (place, state) of the tie's hearers who aren't still, places rising."""
        return self.tie_row(tie)[4]

    def beside(self, person):
        """The ties of which the person is the one or the other, in order."""
        if not self.has_person(person):
            raise NoSuch(person)
        return [tie for tie in self.ties() if person in self.ends(tie)]

    def parts(self):
        """The persons of each part, in order, the parts by their first persons."""
        told = []
        seen = {}
        for person in self.persons():
            if person not in seen:
                members = self.part(person)
                told.append(members)
                for member in members:
                    seen[member] = True
        return told

    def part(self, person):
        """The persons who hang together with this one, itself too, in order."""
        if not self.has_person(person):
            raise NoSuch(person)
        reached = {person: True}
        waiting = [person]
        while waiting:
            at = waiting.pop()
            for tie in self.beside(at):
                for end in self.ends(tie):
                    if end not in reached:
                        reached[end] = True
                        waiting.append(end)
        return [name for name in self.persons() if name in reached]

    def __eq__(self, other):
        return (isinstance(other, Web) and self.in_rounds == other.in_rounds
                and self.person_rows == other.person_rows and self.tie_rows == other.tie_rows)

    def __len__(self):
        return len(self.person_rows)

    def __repr__(self):
        if self.in_rounds:
            return f"Web({self.person_rows!r}, {self.tie_rows!r}, rounds=True)"
        return f"Web({self.person_rows!r}, {self.tie_rows!r})"
