"""Polygons: which way they turn, and whether their edges cross."""

from math import lcm

from hintedpoints.errors import NoParts
from hintedpoints.numbers import floor_of, is_list, less, minus, pair_of, plus, sign_of, times, total
from hintedpoints.ways import need_place

MOST_POLYGONS = 4
MOST_PLACES = 100


def need_polygons(parts):
    """Refuses what are no polygons."""
    if not is_list(parts, 1, MOST_POLYGONS):
        raise NoParts(parts)
    for polygon in parts:
        if not is_list(polygon, 1, MOST_PLACES):
            raise NoParts(polygon)
        for place in polygon:
            need_place(place)


def _turn(polygon):
    """Tells which way a polygon turns."""
    shares = []
    for at, (x, y) in enumerate(polygon):
        next_x, next_y = polygon[(at + 1) % len(polygon)]
        shares.append(minus(times(x, next_y), times(y, next_x)))
    return sign_of(total(shares))


def turns(parts):
    """Tells of each polygon which way it turns."""
    need_polygons(parts)
    return [_turn(polygon) for polygon in parts]


def _whole_place(place):
    """Tells whole numbers (x, y, base), base above nought, of which x and y over it are a place's."""
    top, base = pair_of(place[0])
    other_top, other_base = pair_of(place[1])
    shared = lcm(base, other_base)
    return (top * (shared // base), other_top * (shared // other_base), shared)


def _line(one, other):
    """Tells the three whole numbers by which it is told on which side of two whole places others lie."""
    x, y, base = one
    other_x, other_y, other_base = other
    return (y * other_base - base * other_y, base * other_x - x * other_base, x * other_y - y * other_x)


def _box(one, other):
    """Tells the whole numbers (west, east, south, north) at which, or just ahead of which, two places end."""
    xs = [floor_of(one[0]), floor_of(other[0])]
    ys = [floor_of(one[1]), floor_of(other[1])]
    return (min(xs), max(xs), min(ys), max(ys))


class Edge:
    """An edge that goes from one place to another one; at and follower are its own and the next one's tuple."""

    def __init__(self, at, follower, begin, end):
        self.at = at
        self.follower = follower
        self.begin = begin
        self.end = end
        # Places in whole numbers keep looks at four hundred edges quick.
        self.whole_begin = _whole_place(begin)
        self.whole_end = _whole_place(end)
        self.line = _line(self.whole_begin, self.whole_end)
        self.box = _box(begin, end)


def edges_of(number, polygon):
    """Tells the edges of a polygon, without those that are let out."""
    ends = [*polygon[1:], polygon[0]]
    kept = [at for at, place in enumerate(polygon) if place != ends[at]]
    followers = kept[1:] + kept[:1]
    return [Edge((number, at), (number, follower), polygon[at], ends[at]) for at, follower in zip(kept, followers)]


def _side(line, whole):
    """Tells on which side of a line a place lies."""
    found = line[0] * whole[0] + line[1] * whole[1] + line[2] * whole[2]
    if found == 0:
        return 0
    return 1 if found > 0 else -1


def _are_apart(one, other):
    """Tells whether the boxes of two edges show that these have nothing in common."""
    west, east, south, north = one.box
    other_west, other_east, other_south, other_north = other.box
    return east < other_west or other_east < west or north < other_south or other_north < south


def _meet(one, other):
    """Tells whether two stretches of numbers, tuples of both ends, have a number in common."""
    low, high = one if less(one[0], one[1]) else one[::-1]
    other_low, other_high = other if less(other[0], other[1]) else other[::-1]
    return not less(high, other_low) and not less(other_high, low)


def _touch(one, other):
    """Tells whether two edges have a place in common."""
    if _are_apart(one, other):
        return False
    ahead = _side(one.line, other.whole_begin)
    behind = _side(one.line, other.whole_end)
    if ahead * behind > 0:
        return False
    if ahead == 0 and behind == 0:
        xs = _meet((one.begin[0], one.end[0]), (other.begin[0], other.end[0]))
        return xs and _meet((one.begin[1], one.end[1]), (other.begin[1], other.end[1]))
    return _side(other.line, one.whole_begin) * _side(other.line, one.whole_end) <= 0


def _folds_back(one, other):
    """Tells whether an edge goes back over the one that it follows."""
    if _side(one.line, other.whole_end) != 0:
        return False
    x, y = other.begin
    back_x, back_y = one.begin
    on_x, on_y = other.end
    east = times(minus(back_x, x), minus(on_x, x))
    north = times(minus(back_y, y), minus(on_y, y))
    return sign_of(plus(east, north)) > 0


def _have_too_much(one, other):
    """Tells whether two edges have more in common than they may."""
    if one.follower == other.at:
        return _folds_back(one, other)
    if other.follower == one.at:
        return _folds_back(other, one)
    return _touch(one, other)


def _found_crossing(parts):
    """Tells the first two edges of what are polygons that have more in common than they may."""
    edges = []
    for number, polygon in enumerate(parts):
        edges.extend(edges_of(number, polygon))
    for at, one in enumerate(edges):
        for other in edges[at + 1:]:
            if _have_too_much(one, other):
                return (one.at, other.at)
    return None


def first_crossing(parts):
    """Tells the first two edges that have more in common than they may, or None."""
    need_polygons(parts)
    return _found_crossing(parts)


def judged(before, after):
    """Tells what became of polygons: whether they turned, crossed, or were kept."""
    need_polygons(before)
    need_polygons(after)
    if len(before) != len(after):
        raise NoParts(after)
    for number, polygon in enumerate(after):
        turn = _turn(polygon)
        if turn == 0 or turn != _turn(before[number]):
            return ("turned", number)
    crossing = _found_crossing(after)
    if crossing is not None:
        return ("crossed", *crossing)
    return ("kept",)
