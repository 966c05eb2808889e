"""Moves of points: each tells the zone, and the setting, that come of it."""

from hintedpoints.errors import NoLine, NoNumber, NoPlace
from hintedpoints.numbers import bare_of, less, minus, need_number, over, plus, times
from hintedpoints.rounds import kept_from, rounding, signed
from hintedpoints.ways import is_place, measure, moved, slide
from hintedpoints.words import LINES, is_line


def _placed(zone, setting, point, place):
    """Tells the zone in which a point was moved along the setting's way to a place."""
    a, b, _ = setting.told()["move"]
    east, north = zone.touched(point)
    return zone.with_point(point, first=zone.first(point), now=place, touched=(east or a != 0, north or b != 0))


def _brought(place, setting, to):
    """Tells where a place comes to that goes to a measure."""
    told = setting.told()
    by = minus(to, measure(place, told["along"]))
    return moved(place, by, move=told["move"], along=told["along"])


def _gone(zone, setting, point, to):
    """Tells the zone in which a point went to a measure."""
    return _placed(zone, setting, point, _brought(zone.now(point), setting, to))


def _now_of(zone, setting, point):
    """Tells a point's measure now."""
    return measure(zone.now(point), setting.told()["along"])


def _first_of(zone, setting, point):
    """Tells a point's measure at first."""
    return measure(zone.first(point), setting.told()["along"])


def _round(setting, distance):
    """Tells a distance rounded by the setting's kind."""
    act = rounding(setting.told()["kind"])
    return act(distance)


def _need_points(zone, points):
    """Refuses the first that is no point of the zone."""
    for point in points:
        zone.now(point)


def _are_near(one, other, setting):
    """Tells whether two numbers are no further apart than the setting's cut-in."""
    return not less(setting.told()["cutin"], bare_of(minus(one, other)))


def settled(zone, setting, point):
    """Moves a point to its own measure, rounded; it is the lean then."""
    to = _round(setting, _now_of(zone, setting, point))
    return (_gone(zone, setting, point, to), setting.changed(lean=point))


def put_at(zone, setting, point, worth):
    """Moves a point to a worth, rounded, where that is near enough; it is the lean then."""
    _need_points(zone, [point])
    need_number(worth)
    if point < 0:
        place = _brought(zone.first(point), setting, worth)
        zone = zone.with_point(point, first=place, now=place, touched=zone.touched(point))
    at = _now_of(zone, setting, point)
    to = _round(setting, worth if _are_near(worth, at, setting) else at)
    return (_gone(zone, setting, point, to), setting.changed(lean=point))


def _first_distance(zone, setting, point):
    """Tells how far a point was from the lean at first."""
    lean = setting.told()["lean"]
    return minus(_first_of(zone, setting, point), _first_of(zone, setting, lean))


def _gone_from_lean(zone, setting, point, distance):
    """Tells the zone in which a point went to a distance from the lean, and the setting."""
    lean = setting.told()["lean"]
    to = plus(_now_of(zone, setting, lean), distance)
    return (_gone(zone, setting, point, to), setting)


def _far(zone, setting, point, distance, length):
    """Moves a point as far from the lean as a length tells, rounded and kept from the least one."""
    kept = kept_from(_round(setting, length), setting.told()["least"], distance)
    return _gone_from_lean(zone, setting, point, kept)


def far_from(zone, setting, point):
    """Moves a point as far from the lean as it was at first."""
    _need_points(zone, [point, setting.told()["lean"]])
    distance = _first_distance(zone, setting, point)
    return _far(zone, setting, point, distance, distance)


def far_by(zone, setting, point, worth):
    """Moves a point as far from the lean as it was at first, or by a worth, where that is near enough."""
    _need_points(zone, [point, setting.told()["lean"]])
    need_number(worth)
    distance = _first_distance(zone, setting, point)
    wanted = signed(bare_of(worth), distance)
    return _far(zone, setting, point, distance, wanted if _are_near(wanted, distance, setting) else distance)


def lined(zone, setting, point):
    """Moves a point to where the lean is."""
    _need_points(zone, [point, setting.told()["lean"]])
    return _gone_from_lean(zone, setting, point, 0)


def amid(zone, setting, point):
    """Moves a point between the holds, as it lay at first."""
    holds = setting.told()["holds"]
    _need_points(zone, [point, *holds])
    ahead, behind = [(_first_of(zone, setting, hold), _now_of(zone, setting, hold)) for hold in holds]
    to = carried(_first_of(zone, setting, point), ahead, behind)
    return (_gone(zone, setting, point, to), setting)


def carried(number, ahead, behind):
    """Tells where a number comes to between two others, tuples (first, now)."""
    need_number(number)
    for pair in (ahead, behind):
        # Two numbers in a tuple, as a place has.
        if not is_place(pair):
            raise NoNumber(pair)
    low, high = (behind, ahead) if less(behind[0], ahead[0]) else (ahead, behind)
    if ahead[0] == behind[0]:
        return plus(number, minus(ahead[1], ahead[0]))
    if not less(low[0], number):
        return plus(number, minus(low[1], low[0]))
    if not less(number, high[0]):
        return plus(number, minus(high[1], high[0]))
    share = over(minus(number, low[0]), minus(high[0], low[0]))
    return plus(low[1], times(share, minus(high[1], low[1])))


def shifted(zone, setting, point, distance):
    """Slides a point by a distance."""
    _need_points(zone, [point])
    need_number(distance)
    place = slide(zone.now(point), distance, way=setting.told()["move"])
    return (_placed(zone, setting, point, place), setting)


def _without(one, other):
    """Tells how far one place lies from another one, to the east and to the north."""
    return (minus(one[0], other[0]), minus(one[1], other[1]))


def _span(one, other):
    """Tells how much two stretches span: nought where they are parallel."""
    return minus(times(one[0], other[1]), times(one[1], other[0]))


def crossing(zone, setting, point, *, a, b, c, d):
    """Moves a point to where the line of two points crosses that of two others."""
    points = (a, b, c, d)
    _need_points(zone, [point, *points])
    begin, end, other_begin, other_end = [zone.now(each) for each in points]
    east, north = _without(end, begin)
    other = _without(other_end, other_begin)
    span = _span((east, north), other)
    if span == 0:
        raise NoPlace(points)
    far = over(_span(_without(other_begin, begin), other), span)
    place = (plus(begin[0], times(far, east)), plus(begin[1], times(far, north)))
    return (zone.with_point(point, first=zone.first(point), now=place, touched=(True, True)), setting)


def _neighbours(point, touched):
    """Tells the nearest touched point of a round ahead of a point, and the nearest behind it."""
    ahead = [each for each in touched if each < point]
    behind = [each for each in touched if each > point]
    return (ahead[-1] if len(ahead) > 0 else touched[-1], behind[0] if len(behind) > 0 else touched[0])


def _rested_place(zone, axis, point, touched):
    """Tells where a point comes to that rests between the touched points of its round."""
    ahead, behind = [(zone.first(each)[axis], zone.now(each)[axis]) for each in _neighbours(point, touched)]
    found = list(zone.now(point))
    found[axis] = carried(zone.first(point)[axis], ahead, behind)
    return tuple(found)


def rested(zone, line):
    """Lets all untouched points rest between the touched ones of their rounds."""
    if not is_line(line):
        raise NoLine(line)
    axis = LINES.index(line)
    found = zone
    begin = 0
    for end in zone.ends():
        points = list(range(begin, end + 1))
        touched = [point for point in points if zone.touched(point)[axis]]
        for point in points:
            if len(touched) > 0 and point not in touched:
                place = _rested_place(zone, axis, point, touched)
                found = found.with_point(point, first=zone.first(point), now=place, touched=zone.touched(point))
        begin = end + 1
    return found
