"""Kinds of rounding, and the least distance that is kept from."""

from hintedpoints.errors import NoNumber, NoRound
from hintedpoints.numbers import bare_of, floor_of, is_from_nought, is_number, less, minus
from hintedpoints.numbers import need_number, over, plus, sign_of

CELL = 64
PERIODS = {"grid": (64, 0), "half": (64, 32), "double": (32, 0)}


def signed(number, distance):
    """Tells a number from 0 on with the sign of a distance, nought counting as above nought."""
    if sign_of(distance) < 0:
        return minus(0, number)
    return number


def _down(distance):
    """Tells a distance rounded towards nought, to whole cells."""
    return signed(floor_of(bare_of(distance), step=CELL), distance)


def _up(distance):
    """Tells a distance rounded away from nought, to whole cells."""
    below = floor_of(minus(0, bare_of(distance)), step=CELL)
    return signed(minus(0, below), distance)


def _off(distance):
    """Tells a distance as it is."""
    return distance


OTHERS = {"down": _down, "up": _up, "off": _off}


def is_kind(thing):
    """Tells whether a thing is a kind of rounding."""
    return isinstance(thing, str) and (thing in PERIODS or thing in OTHERS)


def is_period(thing):
    """Tells whether a thing is a number above nought."""
    return is_number(thing) and sign_of(thing) > 0


def is_phase(thing, period):
    """Tells whether a thing is a number from 0 on and below a period."""
    return is_from_nought(thing) and less(thing, period)


def is_rounding(thing):
    """Tells whether a thing is a kind of rounding, or a tuple of a period and a phase."""
    if not isinstance(thing, tuple):
        return is_kind(thing)
    return len(thing) == 2 and is_period(thing[0]) and is_phase(thing[1], thing[0])


def by_period(period, phase=0):
    """Tells the def that rounds a distance to a phase and periods beyond it."""
    if not is_period(period):
        raise NoRound(period)
    if not is_phase(phase, period):
        raise NoRound(phase)
    # From half a period ahead of a place on it is the nearest one: so of two
    # equally near ones the further one from nought is told.
    begin = minus(phase, over(period, 2))

    def nearest(distance):
        beyond = floor_of(minus(bare_of(distance), begin), step=period)
        if sign_of(beyond) < 0:
            beyond = 0
        return signed(plus(phase, beyond), distance)

    return nearest


def rounder(kind):
    """Tells the def that rounds a distance by a kind."""
    if not is_kind(kind):
        raise NoRound(kind)
    if kind in PERIODS:
        period, phase = PERIODS[kind]
        return by_period(period, phase)
    return OTHERS[kind]


def rounding(kind):
    """Tells the def that rounds a distance by a kind, or by a tuple of a period and a phase."""
    if isinstance(kind, tuple):
        period, phase = kind
        return by_period(period, phase)
    return rounder(kind)


def kept_from(found, least, distance):
    """Tells what was found, or the least one with the sign of a distance where that is less."""
    if less(bare_of(found), least):
        return signed(least, distance)
    return found


def rounded(distance, *, kind="grid", least=0):
    """Tells a distance rounded by a kind and kept from a least one."""
    need_number(distance)
    act = rounder(kind)
    if not is_from_nought(least):
        raise NoNumber(least)
    return kept_from(act(distance), least, distance)
