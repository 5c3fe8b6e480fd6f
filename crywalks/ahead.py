"""What comes: the least lengths of walks, by how much they turn, without going there beat by beat.

A walk of turn k is made of k walks of turn 1, each of which ends at a GOAL, a knot to which some link of turn 1
leads. So the least lengths from goal to goal, of walks of turn 1 or more, are all that has to be known: those of
turn 2 or more are the least sums of two of them, those of 4 of two of these, and so on.
"""

from crywalks.knots import least_lengths, links_of

# In cries, by how many beats ago one was set; from 2 on one is still.
STATES_SINCE = (1, 2, 0)


def known(table):
    """All numbers of a table, None being none."""
    return [length for row in table for length in row if length is not None]


def least_sum(one, other):
    """The least sum of two numbers at the same place of two lists, None being no number."""
    sums = [first + second for first, second in zip(one, other) if first is not None and second is not None]
    return min(sums, default=None)


def where_least(one, other):
    """The first place at which two lists have their least sum, which there is."""
    sums = [(one[at] + other[at], at) for at in range(len(one)) if one[at] is not None and other[at] is not None]
    return min(sums)[1]


def joined(one, other):
    """The least lengths, row by row, of a walk of the one table and, behind it, one of the other."""
    columns = [list(column) for column in zip(*other)]
    return [[least_sum(row, column) for column in columns] for row in one]


def first_labels(links, source, goals):
    """A dict from goals to labels of least walks of turn 1 or more from the source, and the list of all labels.

    A label is a tuple (length, spot, piece, ahead), the walk of label ahead and, behind it, that piece; the first
    one is the walk of no steps. The dict is from goals to numbers of labels.
    """
    # A walk of least length has no round that turns by 0 or less; so what is still to come of it never turns back
    # by as much as there are knots, and turns above that needn't be told apart.
    most = len(links)
    labels = [(0, source, None, 0)]
    waiting = [(0, 0, 0)]
    best = {}
    found = {}
    while waiting and len(found) < len(goals):
        least = min(waiting)
        waiting.remove(least)
        length, back, number = least
        spot = labels[number][1]
        # Who has been there with a walk no longer that turns no less need not come again.
        if spot in best and best[spot] >= -back:
            continue
        best[spot] = -back
        if back < 0 and spot in goals and spot not in found:
            found[spot] = number
        for goal, far, turn, piece in links[spot]:
            then = min(turn - back, most)
            if goal not in best or best[goal] < then:
                waiting.append((length + far, -then, len(labels)))
                labels.append((length + far, goal, piece, number))
    return (found, labels)


class Ahead:
    """What comes to the spots of one part: its persons, its told hearers, and the one that is asked for."""

    def __init__(self, web, source):
        links = links_of(web, [] if web.has_person(source) else [source])
        self.links = {spot: links[spot] for spot in least_lengths(links, source)}
        self.now = {spot: web.state(spot) for spot in self.links}
        self.in_rounds = web.rounds()
        # A link of turn 1 leads to where one of turn -1 begins.
        self.goals = [spot for spot in self.links if -1 in [link[2] for link in self.links[spot]]]
        # What was found once is kept: first labels and lengths by spots, tails by turns, counts by spots and beats.
        self.labels = {}
        self.rows = {}
        self.tails = {0: [0 for goal in self.goals]}
        self.told = {}
        # Tuples (turn, table): the least lengths of walks of that turn or more from goal to goal.
        self.tables = [(1, [self.firsts(goal) for goal in self.goals])]

    def firsts(self, spot):
        """The least lengths of walks of turn 1 or more from a spot to each goal."""
        if spot not in self.rows:
            found, labels = first_labels(self.links, spot, self.goals)
            self.labels[spot] = (found, labels)
            self.rows[spot] = [labels[found[goal]][0] if goal in found else None for goal in self.goals]
        return self.rows[spot]

    def first_walk(self, spot, goal):
        """A walk of turn 1 or more, of least length, from a spot whose firsts are known to a goal."""
        found, labels = self.labels[spot]
        number = found[goal]
        walk = []
        while number != 0:
            walk.append(labels[number][2])
            number = labels[number][3]
        return walk[::-1]

    def double(self):
        """One more table, of twice the turn of the last one."""
        turn, table = self.tables[-1]
        self.tables.append((2 * turn, joined(table, table)))

    def strides(self, turn):
        """The numbers of the tables whose turns come to this one, the greatest first."""
        while 2 * self.tables[-1][0] <= turn:
            self.double()
        told = []
        for number in range(len(self.tables) - 1, -1, -1):
            if self.tables[number][0] <= turn:
                turn -= self.tables[number][0]
                told.append(number)
        return told

    def behind_table(self, number, tail):
        """The least lengths from each goal of a walk of a table and, behind it, one of the tail."""
        return [least_sum(row, tail) for row in self.tables[number][1]]

    def tail(self, turn):
        """The least lengths of walks of that turn or more from each goal."""
        if turn not in self.tails:
            lengths = self.tails[0]
            for number in self.strides(turn):
                lengths = self.behind_table(number, lengths)
            self.tails[turn] = lengths
        return self.tails[turn]

    def cry(self, spot, nth):
        """The number of the beat that sets the spot for the nth time, None where there's none."""
        return least_sum(self.firsts(spot), self.tail(nth - 1))

    def course(self, spot, turn):
        """A walk of that turn or more, of least length, from a spot, as its first goal and its strides from there.

        Goals are told by their numbers; a stride is a tuple (table, start, goal).
        """
        tails = [self.tails[0]]
        numbers = self.strides(turn - 1)
        for number in numbers:
            tails.append(self.behind_table(number, tails[-1]))
        first = at = where_least(self.firsts(spot), tails.pop())
        strides = []
        for number in numbers[::-1]:
            goal = where_least(self.tables[number][1][at], tails.pop())
            strides.append((number, at, goal))
            at = goal
        return (first, strides)

    def halves(self, stride):
        """The two strides, of the table ahead of its own, that a stride is made of."""
        number, start, goal = stride
        table = self.tables[number - 1][1]
        middle = where_least(table[start], [row[goal] for row in table])
        return [(number - 1, start, middle), (number - 1, middle, goal)]

    def reach_for(self, beats):
        """Tables enough for counts behind so many beats: all walks of the last one are longer."""
        while min(known(self.tables[-1][1]), default=beats + 1) <= beats:
            self.double()

    def behind(self, spot, beats):
        """A tuple (count, last): how often so many beats set the spot, and which one last, None where none does."""
        if (spot, beats) not in self.told:
            self.told[(spot, beats)] = self.sum_behind(spot, beats)
        return self.told[(spot, beats)]

    def sum_behind(self, spot, beats):
        """What behind tells, the first time."""
        firsts = self.firsts(spot)
        tail = self.tails[0]
        last = least_sum(firsts, tail)
        if last is None or last > beats:
            return (0, None)
        self.reach_for(beats)
        count = 1
        for number in range(len(self.tables) - 1, -1, -1):
            longer = self.behind_table(number, tail)
            then = least_sum(firsts, longer)
            if then is not None and then <= beats:
                tail = longer
                last = then
                count += self.tables[number][0]
        return (count, last)

    def state_then(self, spot, beats):
        """The state of the spot behind so many beats."""
        count, last = self.behind(spot, beats)
        if self.in_rounds:
            return (self.now[spot] + count) % 3
        if last is None:
            # As if beat 0 had set who cries now, the one ahead of it who is hoarse, one before that who is still.
            last = -((self.now[spot] + 2) % 3)
        return STATES_SINCE[min(beats - last, 2)]
