"""A desk, at which rows of words are said and answered."""

from crywalks.counts import count_behind, cry_of
from crywalks.ends import altogether, does_end, last_beat
from crywalks.errors import NoRow, NoSuch, NoText
from crywalks.keepers import Keeper
from crywalks.onecries import one_cries
from crywalks.rates import rate_of
from crywalks.webs import is_name
from crywalks.webtexts import number_in, read_web, web_text

# What stands behind a row's first word and the keeper's name.
SHAPES = {
    "copy": ("name",),
    "put": ("word", "number"),
    "lay": ("word", "word", "word", "number"),
    "cut": ("word",),
    "stretch": ("word", "number"),
    "come": ("word", "number"),
    "leave": ("word",),
    "go": ("number",),
    "back": ("number",),
    "show": (),
    "sum": ("word",),
    "count": ("word", "number"),
    "cry": ("word", "number"),
    "ends": ("word",),
    "rate": ("word",),
    "one": ("word",),
}


def answer_of(things):
    """These numbers and names as an answer."""
    return " ".join([str(thing) for thing in things])


def say_put(keeper, things):
    """Puts a person to a state."""
    keeper.put(things[0], things[1])
    return "ok"


def say_lay(keeper, things):
    """Lays a tie."""
    keeper.lay(things[0], things[1], things[2], length=things[3])
    return "ok"


def say_cut(keeper, things):
    """Cuts a tie."""
    keeper.cut(things[0])
    return "ok"


def say_stretch(keeper, things):
    """Stretches a tie."""
    keeper.stretch(things[0], things[1])
    return "ok"


def say_come(keeper, things):
    """Lets a person come."""
    keeper.come(things[0], state=things[1])
    return "ok"


def say_leave(keeper, things):
    """Lets a person leave."""
    keeper.leave(things[0])
    return "ok"


def say_go(keeper, things):
    """Each person, and how often it was set."""
    counts = keeper.go(things[0])
    return answer_of([thing for pair in counts.items() for thing in pair])


def say_back(keeper, things):
    """How many deeds there are then."""
    keeper.back(things[0])
    return str(len(keeper))


def say_show(keeper, things):
    """The web's text."""
    return web_text(keeper.web())


def say_sum(keeper, things):
    """How often a person was set by goes."""
    return str(keeper.sum_of(things[0]))


def say_count(keeper, things):
    """A person's count behind so many beats."""
    return str(count_behind(keeper.web(), things[0], things[1]))


def say_cry(keeper, things):
    """The beat of a person's cry."""
    beat = cry_of(keeper.web(), things[0], nth=things[1])
    return "never" if beat is None else str(beat)


def say_ends(keeper, things):
    """How often a person is set altogether, and by which beat last."""
    web = keeper.web()
    if not does_end(web, things[0]):
        return "never"
    return answer_of([altogether(web, things[0]), last_beat(web, things[0])])


def say_rate(keeper, things):
    """The rate of a person's part."""
    return answer_of(rate_of(keeper.web(), things[0])[0])


def say_one(keeper, things):
    """The beats and persons of all single cries that make a person's part go on for ever."""
    return answer_of([thing for pair in one_cries(keeper.web(), things[0]) for thing in pair])


ANSWERS = {
    "put": say_put,
    "lay": say_lay,
    "cut": say_cut,
    "stretch": say_stretch,
    "come": say_come,
    "leave": say_leave,
    "go": say_go,
    "back": say_back,
    "show": say_show,
    "sum": say_sum,
    "count": say_count,
    "cry": say_cry,
    "ends": say_ends,
    "rate": say_rate,
    "one": say_one,
}


def thing_in(word, kind):
    """What a word of that kind tells: a number, or the word itself."""
    told = number_in(word) if kind == "number" else word
    if told is None or word == "" or kind == "name" and not is_name(word):
        raise NoRow("no such word there")
    return told


def things_in(words):
    """What stands behind a row's first word and the keeper's name, by the row's shape."""
    if words[0] not in SHAPES or len(words) != 2 + len(SHAPES[words[0]]) or words[1] == "":
        raise NoRow("no such row")
    return [thing_in(word, kind) for word, kind in zip(words[2:], SHAPES[words[0]])]


def opened(words, text):
    """The keeper of which a row tells that opens it: these words, and a web's text behind them."""
    if len(words) != 2 or not is_name(words[1]):
        raise NoRow("no name for a keeper")
    try:
        return Keeper(read_web(text))
    except NoText:
        raise NoRow("no web's text") from None


class Desk:
    """Keepers by names, and rows that are said to them."""

    def __init__(self):
        self.keepers = {}

    def say(self, row):
        """The answer to a row."""
        if not isinstance(row, str):
            raise NoRow("no text")
        head, feed, text = row.partition("\n")
        words = head.split(" ")
        if words[0] == "open" and feed == "\n":
            self.keepers[words[1]] = opened(words, text)
            return "ok"
        if feed == "\n":
            raise NoRow("no row of words")
        things = things_in(words)
        if words[1] not in self.keepers:
            raise NoSuch(words[1])
        keeper = self.keepers[words[1]]
        if words[0] == "copy":
            self.keepers[things[0]] = keeper.copied()
            return "ok"
        answer = ANSWERS[words[0]]
        return answer(keeper, things)
