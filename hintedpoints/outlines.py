"""Outlines: points in rounds, some on the curve and some beside it, and the polygons that they tell."""

from hintedpoints.errors import NoLimit, NoNumber, NoOutline, NoPoint, TooMany
from hintedpoints.numbers import is_int, is_list, is_whole, over, plus, times, total

FURTHEST = 99999
MOST_ROUNDS = 4
FEWEST_POINTS = 3
MOST_POINTS = 12
MOST_CUTS = 4


def is_near(thing):
    """Tells whether a thing is a whole number from -99,999 to 99,999."""
    return is_whole(thing, -FURTHEST, FURTHEST)


def _is_outline_point(thing):
    """Tells whether a thing is a tuple of two such numbers and a truth."""
    if not isinstance(thing, tuple) or len(thing) != 3:
        return False
    x, y, on = thing
    return is_near(x) and is_near(y) and isinstance(on, bool)


def _need_rounds(rounds):
    """Refuses what are no rounds of an outline."""
    if not is_list(rounds, 1, MOST_ROUNDS):
        raise NoOutline(rounds)
    for points in rounds:
        if not is_list(points, FEWEST_POINTS, MOST_POINTS):
            raise NoOutline(points)
        for point in points:
            if not _is_outline_point(point):
                raise NoPoint(point)


def _point_text(point):
    """Tells the text of a point of an outline."""
    x, y, on = point
    if on:
        return f"{x} {y}"
    return f"{x} {y} off"


class Outline:
    """One to four rounds of points; it never changes."""

    def __init__(self, rounds):
        _need_rounds(rounds)
        self._rounds = [list(points) for points in rounds]

    def __eq__(self, other):
        return isinstance(other, Outline) and self._rounds == other._rounds

    def __len__(self):
        return len(self.points())

    def __str__(self):
        return " | ".join([", ".join([_point_text(point) for point in points]) for points in self._rounds])

    def __repr__(self):
        return f"Outline({self._rounds!r})"

    def rounds(self):
        """Tells its rounds, lists of points."""
        return [list(points) for points in self._rounds]

    def points(self):
        """Tells all its points."""
        return [point for points in self._rounds for point in points]

    def places(self):
        """Tells the places of all its points."""
        return [point[:2] for point in self.points()]

    def truths(self):
        """Tells whether each of its points is on."""
        return [point[2] for point in self.points()]

    def ends(self):
        """Tells the number of each round's last point."""
        found = []
        many = 0
        for points in self._rounds:
            many += len(points)
            found.append(many - 1)
        return found

    def moved(self, *, east=0, north=0):
        """Tells the outline whose points lie so far further."""
        for number in (east, north):
            if not is_int(number):
                raise NoNumber(number)
        return Outline([[(x + east, y + north, on) for x, y, on in points] for points in self._rounds])


def joined(outlines):
    """Tells the outline that has all rounds of one to four outlines."""
    if not is_list(outlines, 1, MOST_ROUNDS):
        raise NoOutline(outlines)
    rounds = []
    for outline in outlines:
        if not isinstance(outline, Outline):
            raise NoOutline(outlines)
        rounds.extend(outline.rounds())
    if len(rounds) > MOST_ROUNDS:
        raise TooMany(len(rounds))
    return Outline(rounds)


def _amid(one, other):
    """Tells the place amid two places."""
    return (over(plus(one[0], other[0]), 2), over(plus(one[1], other[1]), 2))


def _with_understood(places, truths):
    """Tells the points of a round, tuples (place, on), those that are understood with them."""
    found = []
    for at, place in enumerate(places):
        following = (at + 1) % len(places)
        found.append((place, truths[at]))
        if not truths[at] and not truths[following]:
            found.append((_amid(place, places[following]), True))
    return found


def _weighed(numbers, step, cuts):
    """Tells the sum of three numbers, each as much of it as its share is at a step of so many cuts."""
    left = cuts - step
    shares = (left * left, 2 * step * left, step * step)
    return over(total([times(number, share) for number, share in zip(numbers, shares)]), cuts * cuts)


def _curve(one, off, other, cuts):
    """Tells the places between two places with one that is off between them."""
    xs = [one[0], off[0], other[0]]
    ys = [one[1], off[1], other[1]]
    return [(_weighed(xs, step, cuts), _weighed(ys, step, cuts)) for step in range(1, cuts)]


def _polygon(places, truths, cuts):
    """Tells the polygon of a round."""
    points = _with_understood(places, truths)
    # Where the first point is off, the one straight ahead of it is the last of all, and it is on.
    if not points[0][1]:
        points = [points[-1], *points[:-1]]
    found = []
    for at, (place, on) in enumerate(points):
        if on:
            found.append(place)
        else:
            found.extend(_curve(points[at - 1][0], place, points[(at + 1) % len(points)][0], cuts))
    return found


def polygons(places, ends, truths, *, cuts=2):
    """Tells a polygon for each round of points."""
    if not is_whole(cuts, 1, MOST_CUTS):
        raise NoLimit(cuts)
    found = []
    begin = 0
    for end in ends:
        found.append(_polygon(places[begin:end + 1], truths[begin:end + 1], cuts))
        begin = end + 1
    return found
