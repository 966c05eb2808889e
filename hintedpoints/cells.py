"""Cells: which of them polygons fill, and pictures of them."""

from hintedpoints.errors import NoCells, NoNumber, NoText, TooMany
from hintedpoints.numbers import is_int, less, lowest, minus, over, pair_of, plus, rising
from hintedpoints.rounds import CELL
from hintedpoints.turns import edges_of, need_polygons

MIDDLE = CELL // 2
RULES = ("round", "odd")
MOST_ROWS = 400
MOST_SIGNS = 8000


def _need_rule(rule):
    """Refuses what is no rule of what is within."""
    if rule not in RULES:
        raise NoCells(rule)


def _first_from(number):
    """Tells the first column whose middle isn't west of an x, or the first row whose line isn't below a y."""
    top, base = pair_of(number)
    return -((MIDDLE * base - top) // (CELL * base))


def _nearest(number):
    """Tells the column whose middle is nearest to an x, of two the west one."""
    return _first_from(minus(number, MIDDLE))


def _edges(parts):
    """Tells the edges of polygons."""
    return [edge for number, polygon in enumerate(parts) for edge in edges_of(number, polygon)]


def _crossed_at(edge, row):
    """Tells the x at which an edge crosses a row's line."""
    a, b, c = edge.line
    return lowest(-(b * (CELL * row + MIDDLE) + c), a)


def _crossings(edges, low, high):
    """Tells by each row, from low on and below high, that edges cross, at which x which crossings are.

    A crossing is 1 where it goes up, else -1.
    """
    found = {}
    for edge in edges:
        begin = _first_from(edge.begin[1])
        end = _first_from(edge.end[1])
        sign = 1 if begin < end else -1
        for row in range(max(low, min(begin, end)), min(high, max(begin, end))):
            found.setdefault(row, {}).setdefault(_crossed_at(edge, row), []).append(sign)
    return found


def _stretches(crossings, rule):
    """Tells the stretches (enter, leave) of a row, from west to east, by its crossings."""
    found = []
    enter = 0
    state = 0
    for x in rising(list(crossings)):
        before = state
        if rule == "round":
            state = before + sum(crossings[x])
        else:
            state = (before + len(crossings[x])) % 2
        if before == 0:
            enter = x
        elif state == 0:
            found.append((enter, x))
    return found


def _filled(enter, leave, drops):
    """Tells the columns, from begin on and below end, that a stretch fills."""
    begin = _first_from(enter)
    end = _first_from(leave)
    if begin == end and drops:
        begin = _nearest(over(plus(enter, leave), 2))
        end = begin + 1
    return (begin, end)


def _spans_of(row, stretches, drops):
    """Tells the spans of a row, no two of which touch."""
    found = []
    # Stretches come from west to east, and so do the columns that they fill.
    for enter, leave in stretches:
        begin, end = _filled(enter, leave, drops)
        if len(found) > 0 and begin <= found[-1][2]:
            found[-1] = (row, found[-1][1], end)
        elif begin < end:
            found.append((row, begin, end))
    return found


def cells(parts, *, rule="round", drops=True):
    """Tells the spans (row, begin, end) of the cells that polygons fill."""
    need_polygons(parts)
    _need_rule(rule)
    rows = [_first_from(place[1]) for polygon in parts for place in polygon]
    low = min(rows)
    high = max(rows)
    if high - low > MOST_ROWS:
        raise TooMany(high - low)
    crossings = _crossings(_edges(parts), low, high)
    found = []
    for row in sorted(crossings):
        found.extend(_spans_of(row, _stretches(crossings[row], rule), drops))
    return found


def cell_of(parts, column, row, *, rule="round", drops=True):
    """Tells how a cell is filled: in, by being dropped in, or out."""
    need_polygons(parts)
    for number in (column, row):
        if not is_int(number):
            raise NoNumber(number)
    _need_rule(rule)
    stretches = _stretches(_crossings(_edges(parts), row, row + 1).get(row, {}), rule)
    middle = CELL * column + MIDDLE
    for enter, leave in stretches:
        if not less(middle, enter) and less(middle, leave):
            return ("in", enter, leave)
    for enter, leave in stretches:
        if _filled(enter, leave, drops) == (column, column + 1):
            return ("drop", enter, leave)
    return ("out",)


def _is_span(thing):
    """Tells whether a thing is a tuple of a row, a begin and a greater end."""
    if not isinstance(thing, tuple) or len(thing) != 3:
        return False
    row, begin, end = thing
    return is_int(row) and is_int(begin) and is_int(end) and begin < end


def _need_spans(thing):
    """Refuses what is no list of spans, rising, of which no two of one row touch."""
    if not isinstance(thing, (list, tuple)):
        raise NoCells(thing)
    ahead = None
    for span in thing:
        if not _is_span(span):
            raise NoCells(thing)
        if ahead is not None and span[:2] <= (ahead[0], ahead[2]):
            raise NoCells(thing)
        ahead = span


def in_both(spans, others):
    """Tells the spans of the cells that two lists of spans both have."""
    _need_spans(spans)
    _need_spans(others)
    found = []
    at = 0
    other_at = 0
    while at < len(spans) and other_at < len(others):
        row, begin, end = spans[at]
        other_row, other_begin, other_end = others[other_at]
        if row == other_row and max(begin, other_begin) < min(end, other_end):
            found.append((row, max(begin, other_begin), min(end, other_end)))
        if (row, end) < (other_row, other_end):
            at += 1
        else:
            other_at += 1
    return found


def _need_sign(thing):
    """Refuses what is no text of one sign."""
    if not isinstance(thing, str) or len(thing) != 1:
        raise NoText(thing)


def _line_of(spans, west, east, full, bare):
    """Tells the signs of a row's columns from west on and below east."""
    signs = ""
    for _, begin, end in spans:
        signs = signs + bare * (begin - west - len(signs)) + full * (end - begin)
    return signs + bare * (east - west - len(signs))


def picture(spans, *, full="x", bare="."):
    """Tells a text with a sign for each cell, the greatest row first."""
    _need_spans(spans)
    _need_sign(full)
    _need_sign(bare)
    if len(spans) == 0:
        return ""
    south = spans[0][0]
    north = spans[-1][0] + 1
    west = min([begin for _, begin, _ in spans])
    east = max([end for _, _, end in spans])
    many = (north - south) * (east - west)
    if many > MOST_SIGNS:
        raise TooMany(many)
    by_row = {row: [] for row in range(south, north)}
    for span in spans:
        by_row[span[0]].append(span)
    return "\n".join([_line_of(by_row[row], west, east, full, bare) for row in reversed(range(south, north))])
