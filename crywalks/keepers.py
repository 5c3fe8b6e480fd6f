"""Keepers: a web, all that was done to it, and how often each person was set."""

from crywalks.counts import counts_behind
from crywalks.deeds import with_length, with_person, with_state, with_tie, without_person, without_tie
from crywalks.errors import NoBack, NoSuch
from crywalks.far import gone
from crywalks.webs import is_count


class Keeper:
    """A web to which deeds are done, and which they can be taken back from."""

    def __init__(self, web):
        self.stand = web
        self.sums = {person: 0 for person in web.persons()}
        self.deeds = []
        # Tuples (web, sums), as all stood ahead of each deed: neither is ever changed, so they can be kept.
        self.before = []

    def web(self):
        """The web as it stands."""
        return self.stand

    def keep(self, deed, web, counts):
        """Does a deed that isn't refused: what is told of it, the web behind it, and whom it set how often."""
        self.before.append((self.stand, self.sums))
        self.deeds.append(deed)
        self.sums = {person: self.sums.get(person, 0) + counts.get(person, 0) for person in web.persons()}
        self.stand = web

    def put(self, person, state):
        """Puts a person to a state."""
        self.keep(("put", person, state), with_state(self.stand, person, state), {})

    def lay(self, name, one, other, *, length=None):
        """Lays a tie."""
        web = with_tie(self.stand, name, one, other, length=length)
        self.keep(("lay", name, one, other, web.length(name)), web, {})

    def cut(self, tie):
        """Cuts a tie."""
        self.keep(("cut", tie), without_tie(self.stand, tie), {})

    def stretch(self, tie, length):
        """Stretches a tie to another length."""
        self.keep(("stretch", tie, length), with_length(self.stand, tie, length), {})

    def come(self, name, *, state=0):
        """Lets a person come."""
        self.keep(("come", name, state), with_person(self.stand, name, state=state), {})

    def leave(self, person):
        """Lets a person leave."""
        self.keep(("leave", person), without_person(self.stand, person), {})

    def go(self, beats=1):
        """Goes so many beats; tells a dict from all persons to how often each was set by them."""
        then = gone(self.stand, beats)
        counts = counts_behind(self.stand, beats)
        self.keep(("go", beats), then, counts)
        return counts

    def beats(self):
        """How many beats were gone."""
        return sum([deed[1] for deed in self.deeds if deed[0] == "go"])

    def sum_of(self, person):
        """How often the person was set by goes since it came."""
        if not self.stand.has_person(person):
            raise NoSuch(person)
        return self.sums[person]

    def log(self):
        """The deeds that stand."""
        return list(self.deeds)

    def back(self, many=1):
        """Takes so many deeds back."""
        if not is_count(many) or many > len(self.deeds):
            raise NoBack("no number of deeds that stand")
        for undone in range(many):
            self.deeds.pop()
            self.stand, self.sums = self.before.pop()

    def copied(self):
        """A keeper that stands alike, and goes its own way."""
        twin = Keeper(self.stand)
        twin.sums = self.sums
        twin.deeds = list(self.deeds)
        twin.before = list(self.before)
        return twin

    def __eq__(self, other):
        return (isinstance(other, Keeper) and self.stand == other.stand and self.deeds == other.deeds
                and self.sums == other.sums)

    def __len__(self):
        return len(self.deeds)
