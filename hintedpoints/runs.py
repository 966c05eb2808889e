"""Runs: what becomes of a machine's things while a program is done, word by word."""

from hintedpoints.doing import MOVES, SETTINGS
from hintedpoints.errors import Fault, NoBase, NoNumber, NoPlace, NoPoint, NoRound, NoWay
from hintedpoints.moves import rested
from hintedpoints.numbers import is_int, is_short, is_whole
from hintedpoints.reckoning import RECKONING
from hintedpoints.ways import measure
from hintedpoints.words import effect
from hintedpoints.zones import MADE_UP, Setting

# As what each word is told the things that it takes, where that matters, the lowest first.
TOLD_AS = {
    "load": ("store",), "keep": ("any", "store"), "worth": ("worth",), "setworth": ("any", "worth"),
    "place": ("point",), "was": ("point",), "lean": ("point",), "hold": ("point", "point"),
    "settle": ("point",), "far": ("point",), "line": ("point",), "amid": ("point",),
    "put": ("point", "worth"), "by": ("point", "worth"), "shift": ("point", "any"),
    "across": ("point", "point", "point", "point", "point"),
}


def _push(_, word):
    return [word[1]]


def _height(run, _):
    return [len(run.pile)]


def _size(run, _):
    return [run.at_size]


def _rest(run, word):
    run.give(rested(run.zone_now, word[1]))
    return []


# What each word that takes nothing puts, told by the run and the word; it changes the run.
TAKING_NONE = {"push": _push, "height": _height, "size": _size, "rest": _rest}


def _load(run, things):
    return [run.kept[things[0]]]


def _worth(run, things):
    return [run.controls[things[0]]]


def _place(run, things):
    return [measure(run.zone_now.now(things[0]), run.setting_now.told()["along"])]


def _was(run, things):
    return [measure(run.zone_now.first(things[0]), run.setting_now.told()["along"])]


def _keep(run, things):
    run.kept[things[1]] = things[0]
    return []


def _setworth(run, things):
    run.controls[things[1]] = things[0]
    return []


# What each word that takes things puts, told by the run and a list of what it takes; it changes the run.
TAKING = {"load": _load, "worth": _worth, "place": _place, "was": _was, "keep": _keep, "setworth": _setworth}


def _is_long(place):
    """Tells whether one of a place's numbers has more than sixty figures above or below."""
    return not is_short(place[0]) or not is_short(place[1])


def _gave_long(before, after):
    """Tells whether some point has another place than before, at first or now, and one that is too long."""
    for point in range(-MADE_UP, len(after)):
        for old, new in ((before.first(point), after.first(point)), (before.now(point), after.now(point))):
            if new != old and _is_long(new):
                return True
    return False


class Run:
    """A run's stack, store, worths, zone and setting: the machine has them only where the run isn't refused."""

    def __init__(self, blocks, *, size, worths, zone, store, stack, budget):
        self.blocks = blocks
        self.at_size = size
        self.controls = list(worths)
        self.zone_now = zone
        self.kept = list(store)
        self.most = stack
        self.budget = budget
        self.setting_now = Setting()
        self.pile = []
        self.did = []
        self.counted = 0

    def _need(self, holds, why):
        """Refuses where something doesn't hold."""
        if not holds:
            raise Fault(self.counted, why)

    def _need_budget(self):
        """Refuses where as many were counted already as may be."""
        self._need(self.counted < self.budget, "budget")

    def _count(self):
        """Counts one more."""
        self._need_budget()
        self.counted += 1

    def _bounds(self, kind):
        """Tells the least and the greatest number of points, of the store or of worths."""
        if kind == "point":
            return (-MADE_UP, len(self.zone_now) - 1)
        if kind == "store":
            return (0, len(self.kept) - 1)
        return (0, len(self.controls) - 1)

    def _look_at(self, name, things):
        """Refuses the first thing that is no such number as the word is told."""
        for kind, thing in zip(TOLD_AS.get(name, ()), things):
            if kind != "any":
                low, high = self._bounds(kind)
                self._need(is_int(thing), "whole")
                self._need(is_whole(thing, low, high), kind)

    def give(self, zone):
        """Has the points of another zone from now on."""
        self._need(not _gave_long(self.zone_now, zone), "great")
        self.zone_now = zone

    def _act(self, word, things):
        """Does a plain word but for the stack; tells what it puts there."""
        name = word[0]
        if name in RECKONING:
            act = RECKONING[name]
            return act(things)
        if name in TAKING_NONE:
            act = TAKING_NONE[name]
            return act(self, word)
        if name in TAKING:
            act = TAKING[name]
            return act(self, things)
        if name in SETTINGS:
            act = SETTINGS[name]
            self.setting_now = act(self.setting_now, word, things)
            return []
        act = MOVES[name]
        zone, self.setting_now = act(self.zone_now, self.setting_now, self.controls, things)
        self.give(zone)
        return []

    def _acted(self, word, things):
        """Does a plain word but for the stack; tells what it puts there, refuses what can't be done."""
        try:
            return self._act(word, things)
        except NoBase:
            why = "nought"
        except NoRound:
            why = "round"
        except NoNumber:
            why = "least"
        except NoPoint:
            why = "point"
        except NoWay:
            why = "square"
        except NoPlace:
            why = "lines"
        raise Fault(self.counted, why)

    def _do_plain(self, word):
        """Does a plain word."""
        self._need_budget()
        takes, _ = effect(word)
        left = len(self.pile) - takes
        self._need(left >= 0, "lack")
        things = self.pile[left:]
        self._look_at(word[0], things)
        found = self._acted(word, things)
        self._need(all([is_short(number) for number in found]), "great")
        self._need(left + len(found) <= self.most, "full")
        self.pile = self.pile[:left] + found
        self.did.append(word)
        self.counted += 1

    def _do_if(self, word):
        """Does an `if`."""
        top = self.pile[-1:]
        self._do_plain(("drop",))
        self.do_words(word[2] if top == [0] else word[1])

    def _do_repeat(self, word):
        """Does a `repeat`."""
        self._count()
        for _ in range(word[1]):
            self._count()
            self.do_words(word[2])

    def _do_when(self, word):
        """Does a `when`."""
        self._count()
        if word[1] <= self.at_size <= word[2]:
            self.do_words(word[3])

    def _do_call(self, word):
        """Does a `call`."""
        self._count()
        self.do_words(self.blocks[word[1]])

    def do_words(self, words):
        """Does words, one behind the other."""
        for word in words:
            name = word[0]
            if name == "if":
                self._do_if(word)
            elif name == "repeat":
                self._do_repeat(word)
            elif name == "when":
                self._do_when(word)
            elif name == "call":
                self._do_call(word)
            else:
                self._do_plain(word)
