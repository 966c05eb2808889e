"""Words that change a setting, and words that move points."""

from hintedpoints.moves import amid, crossing, far_by, far_from, lined, put_at, settled, shifted
from hintedpoints.ways import way_of


def _way(setting, word, _):
    way = way_of(word[1], word[2])
    return setting.changed(move=way, along=way)


def _measure(setting, word, _):
    return setting.changed(along=way_of(word[1], word[2]))


def _move(setting, word, _):
    return setting.changed(move=way_of(word[1], word[2]))


def _kind(setting, word, _):
    return setting.changed(kind=word[1])


def _period(setting, _, things):
    return setting.changed(kind=(things[0], things[1]))


def _least(setting, _, things):
    return setting.changed(least=things[0])


def _cutin(setting, _, things):
    return setting.changed(cutin=things[0])


def _lean(setting, _, things):
    return setting.changed(lean=things[0])


def _hold(setting, _, things):
    return setting.changed(holds=(things[0], things[1]))


# What each word makes of a setting, told by the setting, the word and a list of what it takes.
SETTINGS = {
    "way": _way, "measure": _measure, "move": _move, "round": _kind, "period": _period, "least": _least,
    "cutin": _cutin, "lean": _lean, "hold": _hold,
}


def _settle(zone, setting, _, things):
    return settled(zone, setting, things[0])


def _far(zone, setting, _, things):
    return far_from(zone, setting, things[0])


def _line(zone, setting, _, things):
    return lined(zone, setting, things[0])


def _amid(zone, setting, _, things):
    return amid(zone, setting, things[0])


def _put(zone, setting, worths, things):
    return put_at(zone, setting, things[0], worths[things[1]])


def _by(zone, setting, worths, things):
    return far_by(zone, setting, things[0], worths[things[1]])


def _shift(zone, setting, _, things):
    return shifted(zone, setting, things[0], things[1])


def _across(zone, setting, _, things):
    point, a, b, c, d = things
    return crossing(zone, setting, point, a=a, b=b, c=c, d=d)


# What each word makes of a zone and a setting, told by both, the worths and a list of what it takes.
MOVES = {
    "settle": _settle, "far": _far, "line": _line, "amid": _amid, "put": _put, "by": _by, "shift": _shift,
    "across": _across,
}
