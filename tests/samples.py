"""Layouts, frames and numbers that several tests use."""

import itertools
import math
import random
import re

SOROBAN = (1, 5, 4, 10)
SUANPAN = (2, 5, 5, 10)
PLAIN_TEN = (0, 1, 9, 10)
SIXTY_LIKE = (6, 4, 3, 25)

# none, one and several upper beads; full worth at, and well above, base less 1
LAYOUTS = [
    SOROBAN,
    SUANPAN,
    PLAIN_TEN,
    SIXTY_LIKE,
    (0, 1, 1, 2),
    (0, 1, 24, 2),
    (0, 1, 24, 25),
    (1, 1, 0, 2),
    (6, 1, 0, 7),
    (1, 20, 19, 25),
    (6, 20, 24, 2),
    (6, 20, 24, 25),
    (3, 2, 1, 8),
    (2, 3, 2, 9),
    (4, 5, 9, 12),
]


def sample_frame(rods, start=0):
    return [LAYOUTS[(start + rod * 4) % len(LAYOUTS)] for rod in range(rods)]


def sample_frames():
    return [sample_frame(rods, start) for rods in range(1, 21) for start in range(0, 15, 2)]


def sample_numbers():
    numbers = [0, 1, 2, 9, 10, 11, 99, 100]
    for figures in range(1, 61):
        numbers.append(int(("7390518264" * 6)[:figures]))
        numbers.append(10 ** figures - 1)
    return numbers


def all_rod_standings(layout):
    upper, worth, lower, base = layout
    return list(itertools.product(range(upper + 1), range(lower + 1)))


def all_standings(frame):
    return [list(rods) for rods in itertools.product(*[all_rod_standings(layout) for layout in frame])]


def standings_of(frame):
    """Some standings of a frame, the clear and the fullest one among them."""
    told = [[(0, 0) for layout in frame], [(upper, lower) for upper, worth, lower, base in frame]]
    for step in range(1, 8):
        told.append([
            ((step + rod) % (upper + 1), (step * 5 + rod * 3) % (lower + 1))
            for rod, (upper, worth, lower, base) in enumerate(frame)
        ])
    return told


NO_TEXTS = [None, True, False, 0, 1, 10, 1.5, b"up 0 1", b"0.0", (), ("0.0",), [], ["up 0 1"], {}, set(), object(), str]


def greatest_tidy(frame):
    lower_rods = math.prod(layout[3] for layout in frame[:-1])
    upper, worth, lower, base = frame[-1]
    return lower_rods * (upper * worth + lower + 1) - 1


def layouts_in(text):
    """The layouts that are written there, the last rod's first, as a frame: rod 0 first."""
    found = re.findall(r"(\d+)x(\d+)\+(\d+):(\d+)", text)
    return [tuple(int(number) for number in numbers) for numbers in reversed(found)]


def rows_in_turn(rows):
    """The numbers of a script's rows in the order in which they are done, but for frame, again and end rows."""
    told = []
    at = 0
    while at < len(rows):
        verb, *words = rows[at].split(" ")
        if verb == "again":
            deep, end = 1, at
            while deep > 0:
                end += 1
                deep += {"again": 1, "end": -1}.get(rows[end].split(" ")[0], 0)
            within = rows_in_turn(rows[at + 1:end])
            told += [at + 1 + number for number in within] * int(words[0])
            at = end
        elif verb != "frame":
            told.append(at)
        at += 1
    return told


def reckoned_plainly(rows):
    """What a script comes to, as a list of names and numbers, or the first row that can't be done and why."""
    frames = {row.split(" ")[1]: layouts_in(row) for row in rows if row.startswith("frame ")}
    borne = {name: 0 for name in frames}
    for at in rows_in_turn(rows):
        verb, name, *words = rows[at].split(" ")
        amount = borne[words[0]] if words and words[0] in borne else int(words[0]) if words else 0
        before = borne[name]
        if verb == "part" and int(words[1]) == 0:
            return (at, "divisor")
        if verb == "part":
            after, borne[words[0]] = divmod(amount, int(words[1]))
        else:
            after = {
                "set": amount, "copy": amount, "clear": 0, "add": before + amount, "gain": before + amount,
                "take": before - amount, "lose": before - amount, "root": math.isqrt(amount),
                "times": before + amount * borne[words[1]] if verb == "times" else 0,
            }[verb]
        if after < 0:
            return (at, "below")
        if after > greatest_tidy(frames[name]):
            return (at, "great")
        borne[name] = after
    return list(borne.items())


FRAME_ROWS = [
    "frame a 1x5+4:10 1x5+4:10 1x5+4:10",
    "frame b 2x5+5:10 0x1+9:10",
    "frame c 3x2+1:8 0x1+1:2 6x4+3:25 0x1+24:3",
    "frame d 6x20+24:25 1x20+19:25 0x1+24:25 1x5+4:10 2x5+5:10 0x1+1:2",
]


def random_step(chance):
    name, one, two = chance.sample("abcd", 3)
    two = chance.choice([one, two])
    number = chance.choice([0, 1, 7, 10, 15, 99, chance.randrange(200), chance.randrange(10 ** 6)])
    return chance.choice([
        f"set {name} {number}", f"set {name} {number}", f"add {name} {number}", f"add {name} {number}",
        f"take {name} {number % 12}", f"gain {name} {one}", f"lose {name} {one}", f"times {name} {one} {two}",
        f"part {name} {one} {number % 14}", f"root {name} {one}", f"copy {name} {one}", f"clear {name}",
    ])


def random_rows(chance, steps, deep):
    rows = []
    while len(rows) < steps:
        if deep > 0 and chance.random() < 0.15:
            rows += [f"again {chance.randrange(4)}"] + random_rows(chance, chance.randrange(4), deep - 1) + ["end"]
        else:
            rows.append(random_step(chance))
    return rows


def random_scripts():
    """Lists of rows, always the same ones; some can be done, in some a row spoils it."""
    told = []
    for seed in range(400):
        chance = random.Random(seed)
        told.append(FRAME_ROWS + random_rows(chance, 1 + seed % 12, 4))
    return told
