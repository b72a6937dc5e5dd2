"""Frames: the places of rods, what standings bear, and tidy standings."""

from beadframe.errors import TooGreat
from beadframe.layouts import BASE, count_of, full_worth, plain_of


def place_of(frame, rod):
    place = 1
    for layout in frame[:rod]:
        place = place * layout[BASE]
    return place


def borne_by(frame, standing):
    borne = 0
    place = 1
    for layout, rod_standing in zip(frame, standing):
        borne = borne + count_of(layout, rod_standing) * place
        place = place * layout[BASE]
    return borne


def clear_of(frame):
    return [(0, 0) for layout in frame]


def digits_of(frame, number):
    digits = []
    left = number
    for layout in frame[:-1]:
        digits.append(left % layout[BASE])
        left = left // layout[BASE]
    digits.append(left)
    return digits


# the last rod has no next one to carry to, so all its beads may count
def most_tidy(frame, rod):
    if rod == len(frame) - 1:
        return full_worth(frame[rod])
    return frame[rod][BASE] - 1


def tidy_of(frame, number):
    digits = digits_of(frame, number)
    last = len(frame) - 1
    if digits[last] > most_tidy(frame, last):
        raise TooGreat(last)
    return [plain_of(layout, digit) for layout, digit in zip(frame, digits)]


def is_tidy(frame, standing):
    return all([stands_tidy(frame, rod, standing[rod]) for rod in range(len(frame))])


def stands_tidy(frame, rod, rod_standing):
    layout = frame[rod]
    count = count_of(layout, rod_standing)
    return count <= most_tidy(frame, rod) and plain_of(layout, count) == rod_standing
