"""Scripts made into moves, and these done on clear frames."""

from beadframe.adding import adding_row, taking_row
from beadframe.frames import clear_of, tidy_of
from beadframe.parting import quotient_rows, root_row
from beadframe.products import product_row
from beadframe.reckoning import amount_of, changes_of, noughts_of, steps_done
from beadframe.rows import rows_between


def made_of(script):
    borne = noughts_of(script)
    made = []
    for step in steps_done(script):
        # reckoned ahead of the moves: it refuses what can't be done
        changes = changes_of(script.frames, borne, step)
        for name, row in MADE[step.verb](script.frames, borne, step):
            made.extend([(name, move) for move in row])
        borne.update(changes)
    return made


def replayed_by(script, rows):
    standings = {}
    for name, frame in script.frames.items():
        standings[name] = clear_of(frame)
    for name, move in rows:
        standings[name] = move.done(script.frames[name], standings[name])
    return standings


# every step leaves its frames tidy, so what a frame bears tells how it stands
def standing_at(frames, borne, name):
    return tidy_of(frames[name], borne[name])


def row_to(frames, borne, name, number):
    return rows_between(frames[name], standing_at(frames, borne, name), tidy_of(frames[name], number))


def set_rows(frames, borne, step):
    name = step.names[0]
    return [(name, row_to(frames, borne, name, amount_of(borne, step)))]


def add_rows(frames, borne, step):
    name = step.names[0]
    return [(name, adding_row(frames[name], standing_at(frames, borne, name), amount_of(borne, step)))]


def take_rows(frames, borne, step):
    name = step.names[0]
    return [(name, taking_row(frames[name], standing_at(frames, borne, name), amount_of(borne, step)))]


def times_rows(frames, borne, step):
    name = step.names[0]
    standing = standing_at(frames, borne, name)
    return [(name, product_row(frames[name], standing, borne[step.names[1]], borne[step.names[2]]))]


def part_rows(frames, borne, step):
    name = step.names[0]
    one = step.names[1]
    rows = quotient_rows(frames[one], standing_at(frames, borne, one), frames[name], step.number)
    return [(name, row_to(frames, borne, name, 0)), (one, rows[0]), (name, rows[1])]


def root_rows(frames, borne, step):
    name = step.names[0]
    one = step.names[1]
    row = root_row(frames[one], standing_at(frames, borne, one), frames[name])
    return [(name, row_to(frames, borne, name, 0)), (name, row)]


def clear_rows(frames, borne, step):
    name = step.names[0]
    return [(name, row_to(frames, borne, name, 0))]


MADE = {
    "set": set_rows,
    "copy": set_rows,
    "add": add_rows,
    "gain": add_rows,
    "take": take_rows,
    "lose": take_rows,
    "times": times_rows,
    "part": part_rows,
    "root": root_rows,
    "clear": clear_rows,
}
