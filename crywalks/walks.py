"""Walks along ties: where somebody stands, how long a walk is, and what the turns of its steps come to."""

from crywalks.errors import NoPlace, NoSuch, NoWalk
from crywalks.webs import is_tuple_of, is_whole

# By what 3 leaves of the second state less the first: each state is beaten by the one behind it, 2 by 0.
ROUND_TURNS = (0, 1, -1)


def step_turn(here, there, rounds):
    """The turn of a step from one of a state to one next to it of another."""
    if rounds:
        return ROUND_TURNS[(there - here) % 3]
    if here == 0 and there == 1:
        return 1
    if here == 1 and there == 0:
        return -1
    return 0


def is_place(web, tie, thing):
    """Whether it is a place of the tie, its ends too."""
    return is_whole(thing) and 0 <= thing <= web.length(tie)


def standing_at(web, tie, place):
    """The spot at a place of a tie."""
    one, other = web.ends(tie)
    if place == 0:
        return one
    if place == web.length(tie):
        return other
    return (tie, place)


def spot_at(web, tie, place):
    """The spot at a place of a tie, of anything as tie and as place."""
    if not web.has_tie(tie):
        raise NoSuch(tie)
    if not is_place(web, tie, place):
        raise NoPlace("no place of the tie")
    return standing_at(web, tie, place)


def stretch_turn(web, tie, low, high):
    """The turn from a place up to another one, all hearers between them being still."""
    here = web.state(standing_at(web, tie, low))
    there = web.state(standing_at(web, tie, high))
    if high - low == 1:
        return step_turn(here, there, web.rounds())
    return step_turn(here, 0, False) + step_turn(0, there, False)


def turn_along(web, tie, start, goal):
    """What the turns of the steps from place to place come to."""
    if not web.has_tie(tie):
        raise NoSuch(tie)
    for place in (start, goal):
        if not is_place(web, tie, place):
            raise NoPlace("no place of the tie")
    if start == goal:
        return 0
    low = min(start, goal)
    high = max(start, goal)
    # Steps are far too many to be gone one by one; but only those beside told hearers and the ends turn.
    stops = [low] + [place for place, state in web.hearers(tie) if low < place < high] + [high]
    turn = sum([stretch_turn(web, tie, at, then) for at, then in zip(stops, stops[1:])])
    return turn if start < goal else -turn


def is_piece(web, thing):
    """Whether it is a piece of a walk."""
    if not is_tuple_of(thing, 3):
        return False
    tie, start, goal = thing
    if not web.has_tie(tie) or not is_place(web, tie, start) or not is_place(web, tie, goal):
        return False
    return start != goal


def piece_read(web, piece):
    """A tuple (begin, end, length, turn) of a piece."""
    tie, start, goal = piece
    begin = standing_at(web, tie, start)
    end = standing_at(web, tie, goal)
    return (begin, end, abs(goal - start), turn_along(web, tie, start, goal))


def both_read(one, other):
    """A tuple (begin, end, length, turn) of two walks, the other behind the one."""
    return (one[0], other[1], one[2] + other[2], one[3] + other[3])


def is_whole_tie(web, piece):
    """Whether a piece leads along its tie from end to end."""
    tie, start, goal = piece
    return abs(goal - start) == web.length(tie)


def pieces_read(web, walk, whole):
    """A tuple (begin, end, length, turn) of a walk, perhaps one of whole ties alone."""
    if not isinstance(walk, list) or len(walk) == 0:
        raise NoWalk(0)
    told = None
    for number, piece in enumerate(walk):
        if not is_piece(web, piece) or whole and not is_whole_tie(web, piece):
            raise NoWalk(number)
        read = piece_read(web, piece)
        if told is not None and told[1] != read[0]:
            raise NoWalk(number)
        told = read if told is None else both_read(told, read)
    return told


def walk_read(web, walk):
    """A tuple (begin, end, length, turn) of a walk."""
    return pieces_read(web, walk, False)


def ring_read(web, ring):
    """A tuple (length, turn) of a ring."""
    begin, end, length, turn = pieces_read(web, ring, True)
    if begin != end:
        raise NoWalk(len(ring))
    return (length, turn)
