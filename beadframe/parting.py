"""Quotients and roots, found on two frames."""

from beadframe.adding import taking_row, tidied_row
from beadframe.errors import NoDivisor
from beadframe.frames import borne_by, clear_of, digits_of, place_of, tidy_of
from beadframe.rows import rows_between


# the greatest digits that fit, from the last rod on, are the quotient's own digits by the second's bases
def quotient_rows(frame, standing, second, divisor):
    if divisor == 0:
        raise NoDivisor("nothing can be parted by 0")
    row = tidied_row(frame, standing)
    left = borne_by(frame, standing)
    second_row = from_clear(second, left // divisor)
    digits = digits_of(second, left // divisor)
    for rod in range(len(second) - 1, -1, -1):
        if digits[rod] != 0:
            product = digits[rod] * place_of(second, rod) * divisor
            row.extend(taking_row(frame, tidy_of(frame, left), product))
            left = left - product
    return (row, second_row)


def root_row(frame, standing, second):
    return from_clear(second, root_of(borne_by(frame, standing)))


# rods change from the last one to rod 0, just as their digits are found
def from_clear(frame, number):
    return rows_between(frame, clear_of(frame), tidy_of(frame, number))


# each guess but the last is above the root, and the next guess is never below it rounded down
def root_of(number):
    guess = number
    while guess * guess > number:
        guess = (guess + number // guess) // 2
    return guess
