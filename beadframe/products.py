"""Products, added rod by rod."""

from beadframe.adding import adding_row, tidied_row
from beadframe.frames import borne_by, digits_of, place_of, tidy_of


# no part of the product is below 0, so the whole sum is refused by the last of them, if not ahead of it
def product_row(frame, standing, one, other):
    row = tidied_row(frame, standing)
    borne = borne_by(frame, standing)
    digits = digits_of(frame, one)
    for rod in range(len(frame) - 1, -1, -1):
        if digits[rod] != 0:
            product = digits[rod] * place_of(frame, rod) * other
            row.extend(adding_row(frame, tidy_of(frame, borne), product))
            borne = borne + product
    return row
