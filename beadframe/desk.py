"""The desk: keeps frames by names, is told rows of words, and answers with texts."""

from beadframe.adding import adding_row, taking_row, tidied_row
from beadframe.cheapest import cheapest_of
from beadframe.errors import NoBack, NoName, NoSay
from beadframe.frames import borne_by, clear_of
from beadframe.making import made_of, replayed_by
from beadframe.points import brought_row, part_borne
from beadframe.prices import ByBeads, ByGrips, ByMoves
from beadframe.rows import done_all, read_row, rows_between, shown_row
from beadframe.scripts import is_name, read_frame, script_of, writes_frame, writes_sixty
from beadframe.slips import slips_of
from beadframe.standings import read_standing, shown_standing

# of each verb, but frame, the kinds of words behind it; bears has two forms
FORMS = {
    "shows": (("name",),),
    "bears": (("name",), ("name", "number")),
    "do": (("name", "text"),),
    "back": (("name",),),
    "fewest": (("name", "number", "price"),),
    "tidy": (("name",),),
    "add": (("name", "number"),),
    "take": (("name", "number"),),
    "bring": (("name", "name"),),
    "run": (("text",),),
    "slips": (("name", "word", "text"),),
}
PRICES = ("moves", "grips", "beads")

# what stands between the rows of a script told to run, and between the parts of an answer
BETWEEN = "; "


class Desk:
    def __init__(self):
        self.kept = {}

    def say(self, row):
        words = words_of(row)
        return ANSWERS[words[0]](self, words)

    def keep(self, name, frame):
        self.kept[name] = Kept(frame)

    def named(self, name):
        if name not in self.kept:
            raise NoName(f"no frame stands by the name {name!r}")
        return self.kept[name]


class Kept:
    def __init__(self, frame):
        self.frame = frame
        self.standing = clear_of(frame)
        # the newest last
        self.moves = []

    # done ahead of being kept: a row that is stuck changes nothing
    def push(self, row):
        self.standing = done_all(self.frame, self.standing, row)
        self.moves.extend(row)

    def push_back(self):
        if not self.moves:
            raise NoBack("no move is left to be taken back")
        self.standing = self.moves.pop().contrary().done(self.frame, self.standing)


def words_of(row):
    if not isinstance(row, str):
        raise NoSay("a desk is told texts")
    words = row.split(" ")
    if words[0] == "frame" and writes_frame(words):
        return words
    for form in FORMS.get(words[0], ()):
        # a text is the last word of its form, and has all that is left, with its blanks
        parts = row.split(" ", len(form))
        if fits(form, parts[1:]):
            return parts
    raise NoSay(f"a desk has no such row: {row!r}")


def fits(form, words):
    return len(words) == len(form) and all([is_kind(kind, word) for kind, word in zip(form, words)])


def is_kind(kind, word):
    if kind == "name":
        return is_name(word)
    if kind == "number":
        return writes_sixty(word)
    if kind == "price":
        return word in PRICES
    return kind == "text" or word != ""


def price_called(word):
    if word == "moves":
        return ByMoves()
    if word == "grips":
        return ByGrips()
    return ByBeads()


def say_frame(desk, words):
    desk.keep(words[1], read_frame(words))
    return "ok"


def say_shows(desk, words):
    return shown_standing(desk.named(words[1]).standing)


def say_bears(desk, words):
    kept = desk.named(words[1])
    if len(words) == 2:
        return str(borne_by(kept.frame, kept.standing))
    point = int(words[2])
    if point > len(kept.frame):
        raise NoSay(f"the frame has less than {point} rods")
    return "/".join([str(number) for number in part_borne(kept.frame, kept.standing, point)])


def say_do(desk, words):
    kept = desk.named(words[1])
    kept.push(read_row(words[2]))
    return shown_standing(kept.standing)


def say_back(desk, words):
    kept = desk.named(words[1])
    kept.push_back()
    return shown_standing(kept.standing)


def pushed_answer(kept, row):
    kept.push(row)
    return shown_row(row)


def say_fewest(desk, words):
    kept = desk.named(words[1])
    cheapest = cheapest_of(kept.frame, kept.standing, int(words[2]), price_called(words[3]))
    return pushed_answer(kept, rows_between(kept.frame, kept.standing, cheapest))


def say_tidy(desk, words):
    kept = desk.named(words[1])
    return pushed_answer(kept, tidied_row(kept.frame, kept.standing))


def say_add(desk, words):
    kept = desk.named(words[1])
    return pushed_answer(kept, adding_row(kept.frame, kept.standing, int(words[2])))


def say_take(desk, words):
    kept = desk.named(words[1])
    return pushed_answer(kept, taking_row(kept.frame, kept.standing, int(words[2])))


def say_bring(desk, words):
    kept = desk.named(words[1])
    other = desk.named(words[2])
    return pushed_answer(kept, brought_row(other.frame, other.standing, kept.frame, kept.standing))


def say_run(desk, words):
    script = script_of(words[1].split(BETWEEN))
    told = []
    for name, standing in replayed_by(script, made_of(script)).items():
        number = borne_by(script.frames[name], standing)
        told.append(f"{name} {number}")
    return BETWEEN.join(told)


def say_slips(desk, words):
    kept = desk.named(words[1])
    other = read_standing(kept.frame, words[2].replace("/", " "))
    row = read_row(words[3])
    return BETWEEN.join([f"{at} {word}" for at, word, move in slips_of(kept.frame, kept.standing, row, other)])


ANSWERS = {
    "frame": say_frame,
    "shows": say_shows,
    "bears": say_bears,
    "do": say_do,
    "back": say_back,
    "fewest": say_fewest,
    "tidy": say_tidy,
    "add": say_add,
    "take": say_take,
    "bring": say_bring,
    "run": say_run,
    "slips": say_slips,
}
