"""The plain way: everybody by itself, one beat behind another, one step behind another; and webs to try it on."""

import random

from crywalks.webs import Web

LETTERS = "abcdefghijkl"


class Plain:
    """All persons and hearers of a web, none left out, gone beat by beat."""

    def __init__(self, web):
        self.web = web
        self.states = {person: web.state(person) for person in web.persons()}
        self.near = {person: [] for person in web.persons()}
        for tie in web.ties():
            row = self.row(tie)
            told = dict(web.hearers(tie))
            for place in range(1, web.length(tie)):
                self.states[(tie, place)] = told.get(place, 0)
                self.near[(tie, place)] = []
            for one, other in zip(row, row[1:]):
                self.near[one].append(other)
                self.near[other].append(one)

    def row(self, tie):
        """The spots along a tie, its persons too."""
        one, other = self.web.ends(tie)
        return [one] + [(tie, place) for place in range(1, self.web.length(tie))] + [other]

    def then(self, spot):
        state = self.states[spot]
        near = [self.states[one] for one in self.near[spot]]
        if self.web.rounds():
            for mine, beating in ((0, 1), (1, 2), (2, 0)):
                if state == mine and beating in near:
                    return beating
            return state
        if state == 1:
            return 2
        if state == 2:
            return 0
        return 1 if 1 in near else 0

    def beat(self):
        """Does a beat; tells whom it set."""
        then = {spot: self.then(spot) for spot in self.states}
        if self.web.rounds():
            moved = [spot for spot in then if then[spot] != self.states[spot]]
        else:
            moved = [spot for spot in then if then[spot] == 1]
        self.states = then
        return moved

    def hearers(self):
        """What would be told of each tie now."""
        return {tie: tuple((place, self.states[(tie, place)]) for place in range(1, self.web.length(tie))
                           if self.states[(tie, place)] != 0) for tie in self.web.ties()}

    def crowd(self):
        return sum(len(told) for told in self.hearers().values())

    def now(self):
        """The web as it stands now, where there is such a one."""
        told = self.hearers()
        return Web([(person, self.states[person]) for person in self.web.persons()],
                   [(tie, *self.web.ends(tie), self.web.length(tie), told[tie]) for tie in self.web.ties()],
                   rounds=self.web.rounds())

    def turn(self, one, other):
        """The turn of a step."""
        pair = (self.states[one], self.states[other])
        if self.web.rounds():
            return 1 if pair in ((0, 1), (1, 2), (2, 0)) else -1 if pair in ((1, 0), (2, 1), (0, 2)) else 0
        return 1 if pair == (0, 1) else -1 if pair == (1, 0) else 0

    def greatest_turn(self, spot, steps):
        """The greatest turn of all walks from a spot of at most so many steps, each of them gone."""
        if steps == 0:
            return 0
        return max([0] + [self.turn(spot, one) + self.greatest_turn(one, steps - 1) for one in self.near[spot]])


def told_beats(web, many):
    """For each of the beats 0 to many a tuple: who it set so far how often, by spots; and all as it stands."""
    plain = Plain(web)
    counts = {spot: 0 for spot in plain.states}
    rows = [(dict(counts), dict(plain.states), plain.hearers())]
    for _ in range(many):
        for spot in plain.beat():
            counts[spot] += 1
        rows.append((dict(counts), dict(plain.states), plain.hearers()))
    return rows


def rounds_web(dice):
    many = dice.randint(2, 8)
    names = LETTERS[:many]
    ties = [("t" + letter, *dice.sample(names, 2), 1, ()) for letter in LETTERS[:dice.randint(1, 12)]]
    return Web([(name, dice.randint(0, 2)) for name in names], ties, rounds=True)


def some_hearers(dice, length, most):
    """Told hearers: one here and there, and cries on their way, with the hoarse behind them."""
    told = {}
    place = dice.randint(1, length)
    while place < length and len(told) + 2 <= most:
        for step, state in enumerate(dice.choice(((1, 2), (2, 1), (1,), (2,)))):
            if place + step < length:
                told[place + step] = state
        place += dice.randint(2, length)
    return tuple(sorted(told.items()))


def cries_web(dice, longest=8):
    many = dice.randint(2, 6)
    names = LETTERS[:many]
    persons = [(name, dice.choice((0, 0, 1, 2))) for name in names]
    ties = []
    left = 12
    for number in range(dice.randint(1, 9)):
        ends = [names[number], names[(number + 1) % many]] if number < many else dice.sample(names, 2)
        dice.shuffle(ends)
        length = dice.randint(2, longest)
        told = some_hearers(dice, length, left)
        left -= len(told)
        ties.append(("t" + LETTERS[number], *ends, length, told))
    dice.shuffle(persons)
    dice.shuffle(ties)
    return Web(persons, ties)


def some_webs(seed, many, longest=8):
    """Webs of cries, and every fourth one of rounds, always the same ones."""
    dice = random.Random(seed)
    return [rounds_web(dice) if number % 4 == 3 else cries_web(dice, longest) for number in range(many)]
