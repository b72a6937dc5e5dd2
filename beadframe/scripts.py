"""Scripts: sums as texts, read to steps."""

from beadframe.errors import NoLayout, NoRow
from beadframe.layouts import read_layout, writes_number, writes_upto

SMALL_LETTERS = "abcdefghijklmnopqrstuvwxyz"
MOST_LETTERS = 8
MOST_FIGURES = 60
MOST_RODS = 20
MOST_TURNS = 60
MOST_DEEP = 4
MOST_ROWS = 100

# of each step how many names, and how many numbers, stand behind its verb
FORMS = {
    "set": (1, 1),
    "add": (1, 1),
    "take": (1, 1),
    "gain": (2, 0),
    "lose": (2, 0),
    "times": (3, 0),
    "part": (2, 1),
    "root": (2, 0),
    "copy": (2, 0),
    "clear": (1, 0),
}


# steps within steps: length tells how many rows count when this is done, walked which steps are done
class Step:
    def __init__(self, at, verb, names, number):
        self.at = at
        self.verb = verb
        self.names = names
        # None where the verb has none
        self.number = number

    def length(self):
        return 1

    def walked(self):
        return [self]


class Again:
    def __init__(self, turns):
        self.turns = turns
        self.steps = []

    def length(self):
        return self.turns * (1 + length_of(self.steps))

    # walked anew for each turn: of no turns the steps within, which may be very many, aren't walked at all
    def walked(self):
        walk = []
        for turn in range(self.turns):
            walk.extend(walk_of(self.steps))
        return walk


class Script:
    def __init__(self):
        self.frames = {}
        self.steps = []


def length_of(steps):
    return sum([step.length() for step in steps])


def walk_of(steps):
    walk = []
    for step in steps:
        walk.extend(step.walked())
    return walk


def read_script(text):
    if not isinstance(text, str):
        raise NoRow(0)
    return script_of(text.split("\n"))


def script_of(rows):
    reader = Reader()
    for at, row in enumerate(rows):
        if at >= MOST_ROWS or not reader.takes(at, row.split(" ")):
            raise NoRow(at)
    if reader.depth() > 0:
        raise NoRow(len(rows))
    return reader.script


# a script being read: takes tells whether a row is one, and keeps it; one that is none leaves no trace
class Reader:
    def __init__(self):
        self.script = Script()
        # the script, and each again within it that has no end yet: the last one gets the steps
        self.blocks = [self.script]

    def depth(self):
        return len(self.blocks) - 1

    def takes(self, at, words):
        verb = words[0]
        if verb == "frame":
            return self.takes_frame(words)
        if verb == "again":
            return self.takes_again(words)
        if verb == "end":
            return self.takes_end(words)
        return verb in FORMS and self.takes_step(at, words)

    def takes_frame(self, words):
        if self.depth() > 0 or not writes_frame(words) or words[1] in self.script.frames:
            return False
        try:
            frame = read_frame(words)
        except NoLayout:
            return False
        self.script.frames[words[1]] = frame
        return True

    def takes_again(self, words):
        if len(words) != 2 or not writes_upto(words[1], MOST_TURNS) or self.depth() >= MOST_DEEP:
            return False
        block = Again(int(words[1]))
        self.blocks[-1].steps.append(block)
        self.blocks.append(block)
        return True

    def takes_end(self, words):
        if len(words) != 1 or self.depth() == 0:
            return False
        self.blocks.pop()
        return True

    def takes_step(self, at, words):
        form = FORMS[words[0]]
        names = words[1:1 + form[0]]
        numbers = words[1 + form[0]:]
        if len(names) != form[0] or len(numbers) != form[1]:
            return False
        # the first name's frame is changed by what the others bear, so it is none of them
        if not all([name in self.script.frames for name in names]) or names[0] in names[1:]:
            return False
        if not all([writes_sixty(number) for number in numbers]):
            return False
        number = int(numbers[0]) if numbers else None
        self.blocks[-1].steps.append(Step(at, words[0], names, number))
        return True


def is_name(text):
    return 1 <= len(text) <= MOST_LETTERS and all([sign in SMALL_LETTERS for sign in text])


# figures are counted first: int() itself fails on very long texts
def writes_sixty(text):
    return len(text) <= MOST_FIGURES and writes_number(text)


# a frame row but for what its layouts say: there are as many of them as a frame may have, and none without signs
def writes_frame(words):
    return 3 <= len(words) <= MOST_RODS + 2 and is_name(words[1]) and "" not in words


# the last rod is written first, a frame begins with rod 0
def read_frame(words):
    return [read_layout(word) for word in reversed(words[2:])]
