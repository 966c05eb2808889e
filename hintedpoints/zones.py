"""Zones of points, and settings by which points are moved."""

from hintedpoints.errors import NoNumber, NoPoint, NoRound, NoZone
from hintedpoints.numbers import is_from_nought, is_int, is_list, is_whole
from hintedpoints.rounds import is_rounding
from hintedpoints.ways import EAST, is_place, need_place, need_way

MOST_POINTS = 48
MADE_UP = 4
NOWHERE = ((0, 0), (0, 0))
UNTOUCHED = (False, False)


def _are_ends(thing, many):
    """Tells whether a thing is a list of the ends of the rounds of so many points."""
    if not is_list(thing, 0, many):
        return False
    ahead = -1
    for end in thing:
        if not is_int(end) or end <= ahead:
            return False
        ahead = end
    return ahead == many - 1


def _is_made_up(thing):
    """Tells whether a thing is a tuple of two places."""
    return isinstance(thing, tuple) and len(thing) == 2 and is_place(thing[0]) and is_place(thing[1])


def _are_made_up(thing):
    """Tells whether a thing is a list of four tuples of two places."""
    return is_list(thing, MADE_UP, MADE_UP) and all([_is_made_up(point) for point in thing])


class Zone:
    """Points in rounds, and four made-up ones, each with its place at first and now; it never changes."""

    def __init__(self, places, ends, *, made_up=None):
        if not is_list(places, 0, MOST_POINTS):
            raise NoZone(places)
        for place in places:
            need_place(place)
        if not _are_ends(ends, len(places)):
            raise NoZone(ends)
        rows = (NOWHERE,) * MADE_UP if made_up is None else made_up
        if not _are_made_up(rows):
            raise NoZone(made_up)
        self._ends = list(ends)
        # Rows (first, now, touched). Behind those of the rounds stand the made-up ones, that of -1 last:
        # so a point's number is the index of its row, below nought too.
        self._points = [(place, place, UNTOUCHED) for place in places]
        self._points += [(first, now, UNTOUCHED) for first, now in rows[::-1]]

    def __eq__(self, other):
        return isinstance(other, Zone) and self._ends == other._ends and self._points == other._points

    def __len__(self):
        return len(self._points[:-MADE_UP])

    def has(self, point):
        """Tells whether a thing is a point of this zone."""
        return is_whole(point, -MADE_UP, len(self) - 1)

    def _row(self, point):
        """Tells the row of a point."""
        if not self.has(point):
            raise NoPoint(point)
        return self._points[point]

    def first(self, point):
        """Tells the place of a point at first."""
        return self._row(point)[0]

    def now(self, point):
        """Tells the place of a point now."""
        return self._row(point)[1]

    def touched(self, point):
        """Tells whether a point is touched to the east and to the north."""
        return self._row(point)[2]

    def places(self):
        """Tells the places now of the points from 0 on."""
        return [now for _, now, _ in self._points[:-MADE_UP]]

    def ends(self):
        """Tells the numbers of the last points of its rounds."""
        return list(self._ends)

    def made_up(self):
        """Tells the places at first and now of the made-up points, that of -1 first."""
        return [(first, now) for first, now, _ in self._points[:-MADE_UP - 1:-1]]

    def with_point(self, point, *, first, now, touched):
        """Tells the zone in which a point has other places and touches."""
        found = Zone((), ())
        found._ends = list(self._ends)
        found._points = list(self._points)
        found._points[point] = (first, now, touched)
        return found


def _is_held(thing):
    """Tells whether a thing is a number that a point of some zone has."""
    return is_whole(thing, -MADE_UP, MOST_POINTS - 1)


def _are_holds(thing):
    """Tells whether a thing is a tuple of two such numbers."""
    return isinstance(thing, tuple) and len(thing) == 2 and _is_held(thing[0]) and _is_held(thing[1])


class Setting:
    """How points are moved; it never changes."""

    def __init__(self, *, move=EAST, along=EAST, kind="grid", least=64, cutin=68, lean=0, holds=(0, 0)):
        need_way(move)
        need_way(along)
        if not is_rounding(kind):
            raise NoRound(kind)
        for number in (least, cutin):
            if not is_from_nought(number):
                raise NoNumber(number)
        if not _is_held(lean):
            raise NoPoint(lean)
        if not _are_holds(holds):
            raise NoPoint(holds)
        self._told = {"move": move, "along": along, "kind": kind, "least": least, "cutin": cutin, "lean": lean,
                      "holds": holds}

    def __eq__(self, other):
        return isinstance(other, Setting) and self._told == other._told

    def told(self):
        """Tells all that it has, by its words."""
        return dict(self._told)

    def changed(self, *, move=None, along=None, kind=None, least=None, cutin=None, lean=None, holds=None):
        """Tells a setting that has some other things; where None is told the thing stays."""
        news = {"move": move, "along": along, "kind": kind, "least": least, "cutin": cutin, "lean": lean,
                "holds": holds}
        told = {word: self._told[word] if news[word] is None else news[word] for word in self._told}
        return Setting(**told)
