"""Slips: all single ones by which a row of moves leads to just what stands there."""

from beadframe.errors import Stuck
from beadframe.moves import move_called
from beadframe.rows import done_all

# where a slip keeps its place in the row, and the move done there
AT = 0
MOVE = 2


def slips_of(frame, standing, row, other):
    slips = []
    for at, move in enumerate(row):
        for slip in slips_at(frame, at, move):
            if leads(frame, standing, with_slip(row, slip), other):
                slips.append(slip)
    return slips


def leads(frame, standing, row, other):
    try:
        reached = done_all(frame, standing, row)
    except Stuck:
        return False
    return reached == other


# in the order of their words
def slips_at(frame, at, move):
    slips = []
    if move.beads > 1:
        slips.append((at, "fewer", move_called(move.word(), move.rod, move.beads - 1)))
    if move.rod > 0:
        slips.append((at, "last", move_called(move.word(), move.rod - 1, move.beads)))
    slips.append((at, "left", None))
    slips.append((at, "more", move_called(move.word(), move.rod, move.beads + 1)))
    if move.rod < len(frame) - 1:
        slips.append((at, "next", move_called(move.word(), move.rod + 1, move.beads)))
    return slips


def with_slip(row, slip):
    at = slip[AT]
    stead = [] if slip[MOVE] is None else [slip[MOVE]]
    return row[:at] + stead + row[at + 1:]
