"""Scripts reckoned plainly: what each frame bears at the end."""

from beadframe.errors import Spoilt, TooGreat, TooLong
from beadframe.frames import tidy_of
from beadframe.parting import root_of
from beadframe.scripts import length_of, walk_of

MOST_DONE = 2000


def reckoned_of(script):
    borne = noughts_of(script)
    for step in steps_done(script):
        borne.update(changes_of(script.frames, borne, step))
    return borne


# what the clear frames bear
def noughts_of(script):
    borne = {}
    for name in script.frames:
        borne[name] = 0
    return borne


# counted ahead of walking: a few rows may tell of very many steps
def steps_done(script):
    if length_of(script.steps) > MOST_DONE:
        raise TooLong("the script has too many rows to be done")
    return walk_of(script.steps)


# the frames that a step changes, and what they bear behind it
def changes_of(frames, borne, step):
    if step.verb == "part" and step.number == 0:
        raise Spoilt(step.at, "divisor")
    changes = RECKONED[step.verb](borne, step)
    for name in changes:
        check_borne(frames[name], changes[name], step)
    return changes


def check_borne(frame, number, step):
    if number < 0:
        raise Spoilt(step.at, "below")
    try:
        tidy_of(frame, number)
    except TooGreat:
        raise Spoilt(step.at, "great") from None


# what is set, added or taken away: the number told, else what the other frame bears
def amount_of(borne, step):
    if step.number is None:
        return borne[step.names[1]]
    return step.number


def after_set(borne, step):
    return {step.names[0]: amount_of(borne, step)}


def after_add(borne, step):
    return {step.names[0]: borne[step.names[0]] + amount_of(borne, step)}


def after_take(borne, step):
    return {step.names[0]: borne[step.names[0]] - amount_of(borne, step)}


def after_times(borne, step):
    return {step.names[0]: borne[step.names[0]] + borne[step.names[1]] * borne[step.names[2]]}


def after_part(borne, step):
    parted = borne[step.names[1]]
    return {step.names[0]: parted // step.number, step.names[1]: parted % step.number}


def after_root(borne, step):
    return {step.names[0]: root_of(borne[step.names[1]])}


def after_clear(borne, step):
    return {step.names[0]: 0}


RECKONED = {
    "set": after_set,
    "copy": after_set,
    "add": after_add,
    "gain": after_add,
    "take": after_take,
    "lose": after_take,
    "times": after_times,
    "part": after_part,
    "root": after_root,
    "clear": after_clear,
}
