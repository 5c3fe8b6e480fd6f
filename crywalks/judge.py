"""Papers read, and what they show."""

from crywalks.errors import NoCount, NoPaper, NoSuch
from crywalks.walks import both_read, is_piece, piece_read
from crywalks.webs import is_count


def is_ahead(thing, read):
    """Whether it is the number of one of the rows that were read."""
    return is_count(thing) and thing < len(read)


def piece_row(web, row):
    """What a row of a piece is, read; None where it is none."""
    return piece_read(web, row[1:]) if is_piece(web, row[1:]) else None


def both_row(row, read):
    """What a row of both is, read, those ahead of it being read; None where it is none."""
    if len(row) != 3 or not is_ahead(row[1], read) or not is_ahead(row[2], read):
        return None
    one = read[row[1]]
    other = read[row[2]]
    return both_read(one, other) if one[1] == other[0] else None


def row_read(web, row, read):
    """A tuple (begin, end, length, turn) of a row's walk, those ahead of it being read; None where it is none."""
    if not isinstance(row, tuple) or len(row) == 0 or not isinstance(row[0], str):
        return None
    if row[0] == "piece":
        return piece_row(web, row)
    if row[0] == "both":
        return both_row(row, read)
    return None


def read_paper(web, paper):
    """A tuple (begin, end, length, turn) of the walk of the paper's last row; None without rows."""
    if not isinstance(paper, list):
        raise NoPaper(0)
    read = []
    for number, row in enumerate(paper):
        told = row_read(web, row, read)
        if told is None:
            raise NoPaper(number)
        read.append(told)
    return read[-1] if read else None


def shown_by(web, person, beats, paper):
    """What the paper shows the person's count behind so many beats to be no less than, or None."""
    if not web.has_person(person):
        raise NoSuch(person)
    if not is_count(beats):
        raise NoCount("no number of beats")
    told = read_paper(web, paper)
    if told is None:
        return 0
    begin, end, length, turn = told
    return turn if begin == person and length <= beats else None
