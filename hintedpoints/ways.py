"""Ways, tuples (a, b, long) of a whole length, along which is measured and moved."""

from math import isqrt

from hintedpoints.errors import NoPlace, NoWay
from hintedpoints.numbers import is_int, is_number, is_whole, need_number, over, plus, times

EAST = (1, 0, 1)
NORTH = (0, 1, 1)
LONGEST = 1000


def is_place(thing):
    """Tells whether a thing is a tuple of two numbers."""
    return isinstance(thing, tuple) and len(thing) == 2 and all([is_number(part) for part in thing])


def need_place(thing):
    """Refuses what is no place."""
    if not is_place(thing):
        raise NoPlace(thing)


def is_way(thing):
    """Tells whether a thing is a way."""
    if not isinstance(thing, tuple) or len(thing) != 3:
        return False
    a, b, long = thing
    if not is_int(a) or not is_int(b) or not is_whole(long, 1, LONGEST):
        return False
    return a * a + b * b == long * long


def need_way(thing):
    """Refuses what is no way."""
    if not is_way(thing):
        raise NoWay(thing)


def has_way(a, b):
    """Tells whether two things are the whole numbers of a way."""
    return is_int(a) and is_int(b) and is_way((a, b, isqrt(a * a + b * b)))


def way_of(a, b):
    """Tells the way that has the two numbers."""
    if not has_way(a, b):
        raise NoWay((a, b))
    return (a, b, isqrt(a * a + b * b))


def measure(place, way):
    """Tells how far a place lies along a way."""
    need_place(place)
    need_way(way)
    x, y = place
    a, b, long = way
    return over(plus(times(x, a), times(y, b)), long)


def slide(place, by, *, way=EAST):
    """Tells the place that lies a number further along a way."""
    need_place(place)
    need_number(by)
    need_way(way)
    x, y = place
    a, b, long = way
    east = over(times(by, a), long)
    north = over(times(by, b), long)
    return (plus(x, east), plus(y, north))


def moved(place, by, *, move=EAST, along=EAST):
    """Tells the place along `move` whose measure by `along` is greater by a number."""
    need_place(place)
    need_number(by)
    need_way(move)
    need_way(along)
    # A slide by 1 along `move` makes the measure greater by this over both lengths.
    gain = move[0] * along[0] + move[1] * along[1]
    if gain == 0:
        raise NoWay((move, along))
    far = over(times(by, move[2] * along[2]), gain)
    return slide(place, far, way=move)
