"""Words that take things off a stack and put others on it, by what they take alone."""

from hintedpoints.numbers import bare_of, floor_of, less, minus, over, plus, times
from hintedpoints.rounds import CELL


def _truth(holds):
    return [1 if holds else 0]


def _nothing(_):
    return []


def _again(things):
    return [*things, things[0]]


def _swap(things):
    return [things[1], things[0]]


def _plus(things):
    return [plus(things[0], things[1])]


def _minus(things):
    return [minus(things[0], things[1])]


def _times(things):
    return [times(things[0], things[1])]


def _over(things):
    return [over(things[0], things[1])]


def _lesser(things):
    return _truth(less(things[0], things[1]))


def _greater(things):
    return _truth(less(things[1], things[0]))


def _same(things):
    return _truth(things[0] == things[1])


def _both(things):
    return _truth(things[0] != 0 and things[1] != 0)


def _either(things):
    return _truth(things[0] != 0 or things[1] != 0)


def _negate(things):
    return [minus(0, things[0])]


def _bare(things):
    return [bare_of(things[0])]


def _floor(things):
    return [floor_of(things[0], step=CELL)]


def _ceil(things):
    return [minus(0, floor_of(minus(0, things[0]), step=CELL))]


def _not(things):
    return _truth(things[0] == 0)


# What each word puts, told by a list of what it takes, the lowest first.
RECKONING = {
    "copy": _again, "pick": _again, "drop": _nothing, "swap": _swap, "plus": _plus, "minus": _minus,
    "times": _times, "over": _over, "lesser": _lesser, "greater": _greater, "same": _same, "both": _both,
    "either": _either, "negate": _negate, "bare": _bare, "floor": _floor, "ceil": _ceil, "not": _not,
}
