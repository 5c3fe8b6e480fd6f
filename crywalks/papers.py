"""Papers that show a count, however long the walk is that they tell."""

from crywalks.ahead import Ahead
from crywalks.errors import NoCount, NoSuch
from crywalks.webs import is_count


class Pad:
    """A paper that is being written, of walks in what is ahead."""

    def __init__(self, ahead):
        self.ahead = ahead
        self.paper = []
        # Rows that are asked for again aren't written again.
        self.pieces = {}
        self.strides_done = {}

    def piece(self, piece):
        """The number of a piece's row."""
        if piece not in self.pieces:
            tie, start, goal = piece
            self.pieces[piece] = len(self.paper)
            self.paper.append(("piece", tie, start, goal))
        return self.pieces[piece]

    def joined_rows(self, numbers):
        """The number of the row that is the walks of all these rows, one behind another."""
        whole = numbers[0]
        for number in numbers[1:]:
            self.paper.append(("both", whole, number))
            whole = len(self.paper) - 1
        return whole

    def first_walk(self, spot, goal):
        """The number of the row of a walk of turn 1 or more from a spot to a goal."""
        return self.joined_rows([self.piece(piece) for piece in self.ahead.first_walk(spot, goal)])

    def stride(self, stride, halves):
        """The number of a stride's row, those of its halves being there."""
        if halves:
            return self.joined_rows([self.strides_done[half] for half in halves])
        number, start, goal = stride
        return self.first_walk(self.ahead.goals[start], self.ahead.goals[goal])

    def write_strides(self, strides):
        """The rows of all these strides."""
        halves = halves_of(self.ahead, strides)
        # A stride's halves are of a table ahead of its own.
        for stride in sorted(halves):
            self.strides_done[stride] = self.stride(stride, halves[stride])

    def write_walk(self, person, turn):
        """The rows of a walk of that turn or more, of least length, from a person, its whole in the last one."""
        first, strides = self.ahead.course(person, turn)
        self.write_strides(strides)
        begin = self.first_walk(person, self.ahead.goals[first])
        self.joined_rows([begin] + [self.strides_done[stride] for stride in strides])


def halves_of(ahead, strides):
    """A dict from these strides, and all that they are made of, to the two halves of each, none of the least."""
    halves = {}
    waiting = list(strides)
    while waiting:
        stride = waiting.pop()
        if stride not in halves:
            halves[stride] = ahead.halves(stride) if stride[0] > 0 else []
            waiting.extend(halves[stride])
    return halves


def paper_of(web, person, beats):
    """A paper whose walk from the person, of at most so many steps, turns by just the count."""
    if not web.has_person(person):
        raise NoSuch(person)
    if not is_count(beats):
        raise NoCount("no number of beats")
    ahead = Ahead(web, person)
    count = ahead.behind(person, beats)[0]
    pad = Pad(ahead)
    if count > 0:
        # No walk of at most so many steps turns by more than the count.
        pad.write_walk(person, count)
    return pad.paper
