"""Numbers brought to other frames, and fractions on frames with a point."""

from beadframe.errors import Between
from beadframe.frames import borne_by, place_of, tidy_of
from beadframe.rows import rows_between

# where a fraction keeps its numbers
TOP = 0
BOTTOM = 1


def brought_row(frame, standing, other, other_standing):
    return rows_between(other, other_standing, tidy_of(other, borne_by(frame, standing)))


def part_borne(frame, standing, point):
    return lowest_terms(borne_by(frame, standing), place_of(frame, point))


def part_set(frame, point, part):
    number = number_below(frame, point, part)
    rest = rest_above(frame, point, part, number)
    if rest == (0, 1):
        return tidy_of(frame, number)
    # asked for its refusal alone: what lies above the greatest number is too great, and not between two
    tidy_of(frame, number + 1)
    raise Between("no standing bears just this fraction")


def part_cut(frame, point, part):
    number = number_below(frame, point, part)
    return (tidy_of(frame, number), rest_above(frame, point, part, number))


# how many parts of one, each 1 by the point's place, the fraction has in full
def number_below(frame, point, part):
    return part[TOP] * place_of(frame, point) // part[BOTTOM]


def rest_above(frame, point, part, number):
    place = place_of(frame, point)
    return lowest_terms(part[TOP] * place - number * part[BOTTOM], part[BOTTOM] * place)


def lowest_terms(top, bottom):
    shared = greatest_divisor(top, bottom)
    return (top // shared, bottom // shared)


def greatest_divisor(one, other):
    while other != 0:
        rest = one % other
        one = other
        other = rest
    return one
