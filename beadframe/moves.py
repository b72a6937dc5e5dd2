"""Moves: some beads of one rod, pushed to the bar or away from it."""

from beadframe.errors import NoMove, Stuck
from beadframe.layouts import HIGH, LOW, LOWER, UPPER, writes_upto

# a written rod or number of beads has at most two figures
MOST_WRITTEN = 99


# each kind tells by pushed what a rod's standing would become, were there room and beads enough
class Move:
    def __init__(self, rod, beads):
        self.rod = rod
        self.beads = beads

    def shown(self):
        word = self.word()
        rod = self.rod
        beads = self.beads
        return f"{word} {rod} {beads}"

    def done(self, frame, standing):
        if self.rod >= len(frame):
            raise Stuck(self.rod, None)
        pushed = self.pushed(standing[self.rod])
        if not can_stand(frame[self.rod], pushed):
            raise Stuck(self.rod, None)
        changed = list(standing)
        changed[self.rod] = pushed
        return changed


class Up(Move):
    def word(self):
        return "up"

    def contrary(self):
        return Down(self.rod, self.beads)

    def pushed(self, rod_standing):
        return (rod_standing[HIGH], rod_standing[LOW] + self.beads)


class Down(Move):
    def word(self):
        return "down"

    def contrary(self):
        return Up(self.rod, self.beads)

    def pushed(self, rod_standing):
        return (rod_standing[HIGH], rod_standing[LOW] - self.beads)


class Put(Move):
    def word(self):
        return "put"

    def contrary(self):
        return Take(self.rod, self.beads)

    def pushed(self, rod_standing):
        return (rod_standing[HIGH] + self.beads, rod_standing[LOW])


class Take(Move):
    def word(self):
        return "take"

    def contrary(self):
        return Put(self.rod, self.beads)

    def pushed(self, rod_standing):
        return (rod_standing[HIGH] - self.beads, rod_standing[LOW])


def can_stand(layout, rod_standing):
    return 0 <= rod_standing[HIGH] <= layout[UPPER] and 0 <= rod_standing[LOW] <= layout[LOWER]


def read_move(text):
    if not isinstance(text, str):
        raise NoMove("a move is read from a text")
    words = text.split(" ")
    if len(words) != 3 or not writes_upto(words[1], MOST_WRITTEN) or not writes_upto(words[2], MOST_WRITTEN):
        raise NoMove(f"not written as a move: {text!r}")
    if words[2] == "0":
        raise NoMove(f"a move pushes one bead or more: {text!r}")
    return move_called(words[0], int(words[1]), int(words[2]))


def move_called(word, rod, beads):
    if word == "up":
        return Up(rod, beads)
    if word == "down":
        return Down(rod, beads)
    if word == "put":
        return Put(rod, beads)
    if word == "take":
        return Take(rod, beads)
    raise NoMove(f"no move is called {word!r}")


def same_move(one, other):
    return one.word() == other.word() and one.rod == other.rod and one.beads == other.beads
