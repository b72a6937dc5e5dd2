"""Layouts, frames and numbers that several tests use."""

import itertools
import math

SOROBAN = (1, 5, 4, 10)
SUANPAN = (2, 5, 5, 10)
PLAIN_TEN = (0, 1, 9, 10)
SIXTY_LIKE = (6, 4, 3, 25)

# none, one and several upper beads; full worth at, and well above, base less 1
LAYOUTS = [
    SOROBAN,
    SUANPAN,
    PLAIN_TEN,
    SIXTY_LIKE,
    (0, 1, 1, 2),
    (0, 1, 24, 2),
    (0, 1, 24, 25),
    (1, 1, 0, 2),
    (6, 1, 0, 7),
    (1, 20, 19, 25),
    (6, 20, 24, 2),
    (6, 20, 24, 25),
    (3, 2, 1, 8),
    (2, 3, 2, 9),
    (4, 5, 9, 12),
]


def sample_frame(rods, start=0):
    return [LAYOUTS[(start + rod * 4) % len(LAYOUTS)] for rod in range(rods)]


def sample_frames():
    return [sample_frame(rods, start) for rods in range(1, 21) for start in range(0, 15, 2)]


def sample_numbers():
    numbers = [0, 1, 2, 9, 10, 11, 99, 100]
    for figures in range(1, 61):
        numbers.append(int(("7390518264" * 6)[:figures]))
        numbers.append(10 ** figures - 1)
    return numbers


def all_rod_standings(layout):
    upper, worth, lower, base = layout
    return list(itertools.product(range(upper + 1), range(lower + 1)))


def all_standings(frame):
    return [list(rods) for rods in itertools.product(*[all_rod_standings(layout) for layout in frame])]


def standings_of(frame):
    """Some standings of a frame, the clear and the fullest one among them."""
    told = [[(0, 0) for layout in frame], [(upper, lower) for upper, worth, lower, base in frame]]
    for step in range(1, 8):
        told.append([
            ((step + rod) % (upper + 1), (step * 5 + rod * 3) % (lower + 1))
            for rod, (upper, worth, lower, base) in enumerate(frame)
        ])
    return told


NO_TEXTS = [None, True, False, 0, 1, 10, 1.5, b"up 0 1", b"0.0", (), ("0.0",), [], ["up 0 1"], {}, set(), object(), str]


def greatest_tidy(frame):
    lower_rods = math.prod(layout[3] for layout in frame[:-1])
    upper, worth, lower, base = frame[-1]
    return lower_rods * (upper * worth + lower + 1) - 1
