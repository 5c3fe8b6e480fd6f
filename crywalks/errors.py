"""What is refused, each kind by a class of its own."""


class WebError(ValueError):
    """Something that was handed in isn't what it is to be."""


class NoWeb(WebError):
    """No web can be made of this: what is wrong, and whose fault it is."""

    def __init__(self, what, who):
        self.what = what
        self.who = who


class NoText(WebError):
    """No web's text: the number of the row that is wrong, 0 of what is no text."""

    def __init__(self, row):
        self.row = row


class NoWalk(WebError):
    """No walk, or no ring: the number of the piece that is wrong."""

    def __init__(self, number):
        self.number = number


class NoPaper(WebError):
    """No paper: the number of the row that is wrong."""

    def __init__(self, row):
        self.row = row


class NoCount(WebError):
    """No whole number from 0 on."""


class NoPlace(WebError):
    """No place of the tie."""


class NoState(WebError):
    """No state."""


class NoLength(WebError):
    """No length of a tie."""


class NoName(WebError):
    """No name."""

    def __init__(self, who):
        self.who = who


class NoCries(WebError):
    """A web of rounds, where one of cries is asked for."""


class NoBack(WebError):
    """No number of deeds that can be taken back."""


class NoRow(WebError):
    """No row that a desk answers."""


class NoSuch(LookupError):
    """There is no such person, tie, spot or keeper."""

    def __init__(self, who):
        self.who = who


class Taken(RuntimeError):
    """A person or a tie has the name already."""

    def __init__(self, who):
        self.who = who


class Same(RuntimeError):
    """Two persons that are to be unlike are one."""

    def __init__(self, who):
        self.who = who


class Crying(RuntimeError):
    """A hearer on the tie isn't still."""

    def __init__(self, who):
        self.who = who


class Alone(RuntimeError):
    """The last person can't leave."""

    def __init__(self, who):
        self.who = who


class Endless(RuntimeError):
    """The part doesn't end: its first person."""

    def __init__(self, who):
        self.who = who


class Crowded(ArithmeticError):
    """More hearers than so many wouldn't be still."""

    def __init__(self, most):
        self.most = most


class TooMany(ArithmeticError):
    """There would be more persons, or ties, than so many."""

    def __init__(self, limit):
        self.limit = limit
