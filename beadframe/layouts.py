"""Layouts of rods, and what a single rod's standing counts."""

from beadframe.errors import NoLayout

# where a layout and a rod's standing keep each of their numbers
UPPER = 0
WORTH = 1
LOWER = 2
BASE = 3
HIGH = 0
LOW = 1

# the least and the greatest of each of a layout's numbers, in its order
BOUNDS = ((0, 6), (1, 20), (0, 24), (2, 25))

# the signs between a layout's numbers, in its order
SIGNS = ("x", "+", ":")

# no number within BOUNDS has more figures; int() itself fails on very long texts
MOST_FIGURES = 2

FIGURES = "0123456789"


def is_whole(thing):
    return isinstance(thing, int) and not isinstance(thing, bool)


def is_layout(thing):
    if not isinstance(thing, tuple) or len(thing) != len(BOUNDS):
        return False
    if not all([is_whole(number) for number in thing]):
        return False
    if not all([bounds[0] <= number <= bounds[1] for number, bounds in zip(thing, BOUNDS)]):
        return False
    return beads_suffice(thing)


def beads_suffice(layout):
    if layout[UPPER] == 0 and layout[WORTH] != 1:
        return False
    if layout[UPPER] > 0 and layout[LOWER] < layout[WORTH] - 1:
        return False
    return full_worth(layout) >= layout[BASE] - 1


def full_worth(layout):
    return layout[UPPER] * layout[WORTH] + layout[LOWER]


# int() and isdigit() take more than plain figures (blanks, signs, other scripts' figures),
# so each sign is looked up
def writes_number(text):
    if text == "" or not all([sign in FIGURES for sign in text]):
        return False
    return text == "0" or text[0] != "0"


# figures are counted first: int() itself fails on very long texts
def writes_upto(text, most):
    return writes_number(text) and len(text) <= len(str(most)) and int(text) <= most


# where a sign lacks, the part behind it is the text without signs, which writes no number
def layout_parts(text):
    parts = []
    rest = text
    for sign in SIGNS:
        pieces = rest.partition(sign)
        parts.append(pieces[0])
        rest = pieces[2]
    parts.append(rest)
    return parts


def read_layout(text):
    if not isinstance(text, str):
        raise NoLayout("a layout is read from a text")
    parts = layout_parts(text)
    if not all([writes_number(part) and len(part) <= MOST_FIGURES for part in parts]):
        raise NoLayout(f"not written as a layout: {text!r}")
    layout = tuple([int(part) for part in parts])
    if not is_layout(layout):
        raise NoLayout(f"no rod has such a layout: {text!r}")
    return layout


def shown_layout(layout):
    upper = layout[UPPER]
    worth = layout[WORTH]
    lower = layout[LOWER]
    base = layout[BASE]
    return f"{upper}x{worth}+{lower}:{base}"


def count_of(layout, rod_standing):
    return rod_standing[HIGH] * layout[WORTH] + rod_standing[LOW]


def plain_of(layout, number):
    high = min(layout[UPPER], number // layout[WORTH])
    return (high, number - high * layout[WORTH])
