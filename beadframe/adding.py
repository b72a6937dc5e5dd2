"""Sums and differences by the old rules, rod by rod."""

from beadframe.errors import Below
from beadframe.frames import borne_by, digits_of, tidy_of
from beadframe.layouts import BASE, count_of, plain_of
from beadframe.rows import rod_row, rows_between


def tidied_row(frame, standing):
    return rows_between(frame, standing, tidy_of(frame, borne_by(frame, standing)))


def adding_row(frame, standing, number):
    hand = Hand(frame, standing)
    # asked ahead of all moves: it refuses a sum for which the last rod hasn't beads enough
    tidy_of(frame, borne_by(frame, standing) + number)
    digits = digits_of(frame, number)
    for rod in range(len(frame) - 1, -1, -1):
        hand.give(rod, digits[rod])
    return hand.row


def taking_row(frame, standing, number):
    hand = Hand(frame, standing)
    if number > borne_by(frame, standing):
        raise Below("more is taken away than is borne")
    digits = digits_of(frame, number)
    for rod in range(len(frame) - 1, -1, -1):
        hand.lessen(rod, digits[rod])
    return hand.row


# a tidy standing that is worked on, and the moves that came so far, those that tidied it first
class Hand:
    def __init__(self, frame, standing):
        self.frame = frame
        self.row = tidied_row(frame, standing)
        self.standing = tidy_of(frame, borne_by(frame, standing))

    def give(self, rod, digit):
        if digit == 0:
            return
        base = self.frame[rod][BASE]
        total = self.count_at(rod) + digit
        if total < base or rod == len(self.frame) - 1:
            self.become(rod, total)
        else:
            self.give(rod + 1, 1)
            self.become(rod, total - base)

    def lessen(self, rod, digit):
        if digit == 0:
            return
        count = self.count_at(rod)
        if digit <= count:
            self.become(rod, count - digit)
        else:
            self.lessen(rod + 1, 1)
            self.become(rod, count + self.frame[rod][BASE] - digit)

    def count_at(self, rod):
        return count_of(self.frame[rod], self.standing[rod])

    def become(self, rod, count):
        plain = plain_of(self.frame[rod], count)
        self.row.extend(rod_row(rod, self.standing[rod], plain))
        self.standing[rod] = plain
