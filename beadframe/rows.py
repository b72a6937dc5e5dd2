"""Rows of moves: done, taken back, written, and found between two standings."""

from beadframe.errors import NoMove, Stuck
from beadframe.layouts import HIGH, LOW
from beadframe.moves import Down, Put, Take, Up, read_move

# what stands between two moves of a written row
BETWEEN_MOVES = "; "


def done_all(frame, standing, row):
    reached = list(standing)
    for at, move in enumerate(row):
        try:
            reached = move.done(frame, reached)
        except Stuck as stuck:
            raise Stuck(stuck.rod, at) from None
    return reached


def way_back(row):
    return [move.contrary() for move in reversed(row)]


def rows_between(frame, one, other):
    row = []
    for rod in range(len(frame) - 1, -1, -1):
        row.extend(rod_row(rod, one[rod], other[rod]))
    return row


# one and other are standings of this rod alone
def rod_row(rod, one, other):
    high = other[HIGH] - one[HIGH]
    low = other[LOW] - one[LOW]
    row = []
    if high < 0:
        row.append(Take(rod, -high))
    if low < 0:
        row.append(Down(rod, -low))
    if high > 0:
        row.append(Put(rod, high))
    if low > 0:
        row.append(Up(rod, low))
    return row


def read_row(text):
    if not isinstance(text, str):
        raise NoMove("a row of moves is read from a text")
    if text == "":
        return []
    return [read_move(part) for part in text.split(BETWEEN_MOVES)]


def shown_row(row):
    return BETWEEN_MOVES.join([move.shown() for move in row])
