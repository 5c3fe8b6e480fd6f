"""The text of a web, and the web of a text."""

from crywalks.errors import NoText, NoWeb
from crywalks.webs import Web

HEADS = ("cries", "rounds")


def tie_words(web, tie):
    """The words of a tie's row."""
    one, other = web.ends(tie)
    words = ["tie", tie, one, other, str(web.length(tie))]
    for place, state in web.hearers(tie):
        words.append(str(place))
        words.append(str(state))
    return words


def web_text(web):
    """The web's text, a line feed behind each row."""
    rows = ["rounds" if web.rounds() else "cries"]
    for person in web.persons():
        rows.append(f"person {person} {web.state(person)}")
    for tie in web.ties():
        rows.append(" ".join(tie_words(web, tie)))
    return "".join([row + "\n" for row in rows])


def number_in(word):
    """The number that a word is in figures, None where it is none."""
    if word == "" or not all(["0" <= figure <= "9" for figure in word]):
        return None
    if word[0] == "0" and word != "0":
        return None
    # One by one, for Python refuses to read figures by the thousands.
    number = 0
    for figure in word:
        number = 10 * number + int(figure)
    return number


def tie_in(words):
    """The tuple of which a tie is made, of the words of its row."""
    numbers = [number_in(word) for word in words[4:]]
    hearers = [(numbers[at], numbers[at + 1]) for at in range(1, len(numbers), 2)]
    return (words[1], words[2], words[3], numbers[0], tuple(hearers))


def web_in(rows):
    """The web whose text has just these rows, the first a right one; None where there's no such web."""
    persons = []
    ties = []
    for row in rows[1:]:
        words = row.split(" ")
        if words[0] == "person" and len(words) == 3 and not ties:
            persons.append((words[1], number_in(words[2])))
        elif words[0] == "tie" and len(words) >= 5 and len(words) % 2 == 1:
            ties.append(tie_in(words))
        else:
            return None
    # A number that is none is handed on as None, which no web takes.
    try:
        return Web(persons, ties, rounds=rows[0] == "rounds")
    except NoWeb:
        return None


def read_web(text):
    """The web whose text this is."""
    if not isinstance(text, str):
        raise NoText(0)
    pieces = text.split("\n")
    rows = pieces[:-1]
    unended = pieces[-1]
    if rows and rows[0] not in HEADS:
        raise NoText(1)
    # From the first person on, what begins a web's text is the text of a web itself.
    web = None
    for many in range(2, len(rows) + 1):
        web = web_in(rows[:many])
        if web is None:
            raise NoText(many)
    if web is None or unended != "":
        raise NoText(len(rows) + 1)
    return web
