"""Standings of frames, written and read."""

from beadframe.errors import NoStanding
from beadframe.layouts import LOWER, UPPER, writes_upto


def read_standing(frame, text):
    if not isinstance(text, str):
        raise NoStanding("a standing is read from a text")
    # the last rod is written first, a frame begins with rod 0
    words = list(reversed(text.split(" ")))
    if len(words) != len(frame):
        raise NoStanding(f"not a word for each rod: {text!r}")
    return [read_rod(layout, word) for layout, word in zip(frame, words)]


def read_rod(layout, word):
    parts = word.split(".")
    if len(parts) != 2:
        raise NoStanding(f"not written as a rod's standing: {word!r}")
    if not writes_upto(parts[0], layout[UPPER]) or not writes_upto(parts[1], layout[LOWER]):
        raise NoStanding(f"the rod has no such standing: {word!r}")
    return (int(parts[0]), int(parts[1]))


def shown_standing(standing):
    return " ".join([f"{high}.{low}" for high, low in reversed(standing)])
