"""Faults and their order: point 63."""

import unittest

from hintedpoints.errors import Fault
from hintedpoints.machine import Machine
from hintedpoints.programs import Program
from hintedpoints.zones import Zone
from tests.helpers import LONG_PART, MOST, Looks
from tests.test_words import PLAIN

PLACES = [(0, 0), (70, 10), (200, 100), (0, 0)]
ZONE = Zone(PLACES, [3])
EMPTY = Zone([], [])
SQUARE = [("move", 1, 0), ("measure", 0, 1)]
# A number that no word can put, but that a store, worths and places may have.
LONG = MOST + 1
POINTS = {"place": 1, "was": 1, "lean": 1, "settle": 1, "far": 1, "line": 1, "amid": 1, "hold": 2, "across": 5}


def pushed(*things):
    return [("push", thing) for thing in things]


class Faults(unittest.TestCase, Looks):
    def fails(self, words, why, done=None, **names):
        """Do these words fail so, at the last one of them where nothing else is told, and leave all as it was?"""
        definitions = names.pop("definitions", {})
        told = Machine(definitions, **{"size": 12, "worths": [80, 60], "zone": ZONE, **names})
        before = (told.store(), told.worths(), told.zone(), told.stack(), told.trail())
        wanted = {"done": len(words) - 1 if done is None else done, "why": why}
        self.refused_at(Fault, wanted, told.run, Program(words, names=["a"]))
        self.assertEqual((told.store(), told.worths(), told.zone(), told.stack(), told.trail()), before)
        self.assertEqual((told.log(), told.at_rest()), (["in", "out"], True))

    def goes(self, words, counted=None, **names):
        """Are these words done?"""
        definitions = names.pop("definitions", {})
        told = Machine(definitions, **{"size": 12, "worths": [80, 60], "zone": ZONE, **names})
        self.assertEqual(told.run(Program(words, names=["a"])), len(words) if counted is None else counted)
        return told

    def test_budget(self):
        for word in [("round", "up"), ("drop",), ("if", [], []), ("repeat", 0, []), ("when", 13, 13, []),
                     ("call", "a")]:
            self.fails([("round", "up")] * 5 + [word], "budget", budget=5, definitions={"a": Program([])})
        self.goes([("round", "up")] * 5, budget=5)
        self.goes([*pushed(1), ("if", pushed(1), [])], 3, budget=3)
        self.fails([*pushed(1), ("if", pushed(1), [])], "budget", 2, budget=2)

    def test_budget_ahead_of_a_round(self):
        self.goes([("repeat", 0, [])], 1, budget=1)
        self.fails([("repeat", 1, [])], "budget", 1, budget=1)
        self.goes([("repeat", 1, [])], 2, budget=2)
        self.fails([("repeat", 20, [])], "budget", 20, budget=20)
        self.goes([("repeat", 20, [])], 21, budget=21)
        self.fails([("repeat", 2, pushed(1))], "budget", 4, budget=4)
        self.fails([("repeat", 2, pushed(1))], "budget", 3, budget=3)
        self.fails([("repeat", 2, pushed(1))], "budget", 2, budget=2)
        self.goes([("repeat", 2, pushed(1))], 5, budget=5)

    def test_lack(self):
        for word, takes, _ in PLAIN:
            if takes:
                self.fails(pushed(*[0] * (takes - 1)) + [word], "lack")
                self.fails([word], "lack", 0, zone=EMPTY, worths=[])
        self.fails([("if", [], [])], "lack")
        self.fails([("repeat", 2, [("drop",)])], "lack", 2)

    def test_lack_goes_ahead_of_all_but_the_budget(self):
        for word, takes, _ in PLAIN:
            if takes > 1:
                self.fails(pushed(*[(1, 2)] * (takes - 1)) + [*SQUARE, word], "lack", stack=max(takes, 1))
                self.fails(pushed(*[(1, 2)] * (takes - 1)) + [word], "budget", budget=takes - 1)

    def test_points(self):
        for word, many in POINTS.items():
            for at in range(many):
                good = [0] * at
                for thing in (4, -5, MOST, -MOST):
                    self.fails(pushed(*good, thing, *[(1, 2)] * (many - at - 1)) + [(word,)], "point")
                for thing in ((1, 2), (-9, 4)):
                    self.fails(pushed(*good, thing, *[99] * (many - at - 1)) + [(word,)], "whole")
        for word in ("put", "by"):
            self.fails(pushed(4, (1, 2)) + [(word,)], "point")
            self.fails(pushed((1, 2), 9) + [(word,)], "whole")
            self.fails(pushed(0, (1, 2)) + [(word,)], "whole")
            for thing in (2, -1, MOST):
                self.fails(pushed(0, thing) + [(word,)], "worth")
                self.fails(SQUARE + pushed(0, thing) + [(word,)], "worth")
            self.fails(pushed(-1, 0) + [(word,)], "worth", worths=[], zone=EMPTY)
        self.fails(pushed(4, LONG - 1) + [("shift",)], "point")
        self.fails(pushed((1, 2), 3) + [("shift",)], "whole")
        self.goes(pushed(3, (1, 2)) + [("shift",)])
        self.fails(pushed(0) + [("settle",)], "point", zone=EMPTY)
        for point in (-4, -1, 3):
            self.goes(pushed(point) + [("settle",)])

    def test_the_store_and_the_worths(self):
        for word, ahead in (("load", []), ("keep", [(1, 2)])):
            for thing in (8, -1, MOST):
                self.fails(pushed(*ahead, thing) + [(word,)], "store")
            self.fails(pushed(*ahead, (1, 2)) + [(word,)], "whole")
            for thing in (0, 7):
                self.goes(pushed(*ahead, thing) + [(word,)])
        for word, ahead in (("worth", []), ("setworth", [(1, 2)])):
            for thing in (2, -1, MOST):
                self.fails(pushed(*ahead, thing) + [(word,)], "worth")
            self.fails(pushed(*ahead, (1, 2)) + [(word,)], "whole")
            self.fails(pushed(*ahead, 0) + [(word,)], "worth", worths=())
            for thing in (0, 1):
                self.goes(pushed(*ahead, thing) + [(word,)])

    def test_nought_round_and_least(self):
        self.fails(pushed(5, 0) + [("over",)], "nought")
        self.fails(pushed(0, 0) + [("over",)], "nought")
        for period, phase in [(0, 0), (-1, 0), (64, 64), (64, -1), (64, 65), ((1, 2), (1, 2)), (1, MOST)]:
            self.fails(pushed(period, phase) + [("period",)], "round")
        for period, phase in [(1, 0), (64, 63), ((1, 2), (1, 3)), (MOST, 0)]:
            self.goes(pushed(period, phase) + [("period",)])
        for word in ("least", "cutin"):
            for thing in (-1, (-1, 2), -MOST):
                self.fails(pushed(thing) + [(word,)], "least")
            for thing in (0, (1, 2), MOST):
                self.goes(pushed(thing) + [(word,)])

    def test_the_lean_and_the_holds(self):
        for word in ("far", "line", "amid"):
            self.fails(pushed(-1) + [(word,)], "point", zone=EMPTY)
            self.fails(SQUARE + pushed(-1) + [(word,)], "point", zone=EMPTY)
        self.fails(SQUARE + pushed(-1, 0) + [("by",)], "point", zone=EMPTY)
        self.goes(pushed(-2) + [("lean",)] + pushed(-1) + [("far",)], zone=EMPTY)
        self.goes(pushed(-2, -3) + [("hold",)] + pushed(-1) + [("amid",)], zone=EMPTY)
        self.goes(pushed(-1) + [("settle",)] + pushed(-1, 0) + [("put",)] + pushed(-2, 1) + [("by",)], zone=EMPTY)

    def test_square(self):
        for word in ("settle", "far", "line", "amid"):
            for point in (0, 1, -1):
                self.fails(SQUARE + pushed(point) + [(word,)], "square")
        for word in ("put", "by"):
            self.fails(SQUARE + pushed(1, 0) + [(word,)], "square")
        self.goes(SQUARE + pushed(1, 5) + [("shift",)])

    def test_lines(self):
        for points in ((1, 0, 0, 1, 2), (1, 0, 1, 1, 0), (1, 0, 3, 1, 2), (3, -1, -2, 1, 2), (1, 0, 1, 2, 2)):
            self.fails(pushed(*points) + [("across",)], "lines")
        self.goes(pushed(3, 0, 1, 1, 2) + [("across",)])

    def test_great_of_what_is_put_on_the_stack(self):
        for words in (pushed(MOST, 1) + [("plus",)], pushed(-MOST, 1) + [("minus",)], pushed(MOST, 2) + [("times",)],
                      pushed(MOST, (1, 2)) + [("over",)], pushed((1, MOST), (1, 2)) + [("times",)],
                      pushed(LONG_PART, LONG_PART) + [("times",)], pushed((1, MOST), (1, MOST - 1)) + [("plus",)],
                      pushed(MOST) + [("ceil",)], pushed(-MOST) + [("floor",)]):
            self.fails(words, "great")
        for words in (pushed(MOST - 1, 1) + [("plus",)], pushed(MOST, MOST) + [("over",)], pushed(MOST) + [("negate",)],
                      pushed((1, MOST)) + [("copy",)], pushed(LONG_PART) + [("floor",)],
                      pushed(MOST, MOST) + [("minus",)]):
            self.goes(words)

    def test_great_of_what_stood_there_already(self):
        for long in (LONG, -LONG, (1, LONG), (LONG, MOST), (-LONG, 7)):
            store, worths = [0] * 7 + [long], [long, 5]
            self.fails(pushed(7) + [("load",)], "great", store=store)
            self.fails(pushed(0) + [("worth",)], "great", worths=worths)
            told = self.goes(pushed(6) + [("load",)] + pushed(1) + [("worth",)], store=store, worths=worths)
            self.assertEqual((told.store(), told.worths(), told.stack()), (store, worths, [0, 5]))

    def test_great_of_measures(self):
        zone = Zone([(LONG, 5), ((1, LONG), 7), (MOST, MOST)], [2])
        for word in ("place", "was"):
            for point in (0, 1):
                self.fails(pushed(point) + [(word,)], "great", zone=zone)
                self.goes([("way", 0, 1)] + pushed(point) + [(word,)], zone=zone)
            self.goes(pushed(2) + [(word,)], zone=zone)
            self.fails([("way", 3, 4)] + pushed(2) + [(word,)], "great", zone=zone)

    def test_great_of_places(self):
        zone = Zone([(0, LONG), (MOST, 0), (0, 0)], [2])
        # The other number of the place is too long, where it is another place.
        self.fails(pushed(0, 1) + [("shift",)], "great", zone=zone)
        told = self.goes(pushed(0, 0) + [("shift",)] + pushed(0) + [("settle",)], zone=zone)
        self.assertEqual((told.zone().now(0), told.zone().touched(0)), ((0, LONG), (True, False)))
        self.fails(pushed(1, 1) + [("shift",)], "great", zone=zone)
        self.goes(pushed(1, -1) + [("shift",)], zone=zone)
        self.fails(pushed(1) + [("settle",)], "great", zone=Zone([(MOST, 0), (MOST, 0)], [1]))
        self.fails(pushed(2, (1, MOST)) + [("shift",)] + pushed(2, (1, MOST - 1)) + [("shift",)], "great", zone=zone)

    def test_great_of_a_made_up_point(self):
        nought = ((0, 0), (0, 0))
        self.fails(pushed(-1, 0) + [("put",)], "great", worths=[LONG])
        self.fails(pushed(-1, 0) + [("put",)], "great", worths=[MOST])
        self.goes([("round", "off")] + pushed(-1, 0) + [("put",)], worths=[MOST])
        # What it has at first is too long, and is given: y stays as it was, x doesn't.
        long = [((0, LONG), (0, 0)), nought, nought, nought]
        self.fails(pushed(-1, 0) + [("put",)], "great", worths=[64], zone=Zone([], [], made_up=long))
        self.fails(pushed(-1, 0) + [("put",)], "great", worths=[0], zone=Zone([], [], made_up=long))
        long = [((0, LONG), (0, LONG)), nought, nought, nought]
        self.goes(pushed(-1, 0) + [("put",)], worths=[0], zone=Zone([], [], made_up=long))
        # The place at first is too long for what is rounded down to nought, too.
        self.fails([("round", "down")] + pushed(-1, 0) + [("put",)], "great", worths=[(1, LONG)])
        self.goes([("round", "down")] + pushed(-1, 0) + [("put",)], worths=[(1, MOST)])

    def test_great_of_rest(self):
        zone = Zone([(0, 0), (1, LONG), (2, 0)], [2])
        self.fails(pushed(0, 5) + [("shift",), ("rest", "east")], "great", zone=zone)
        self.goes(pushed(0, 0) + [("shift",), ("rest", "east")], zone=zone)
        self.goes(pushed(0, 5) + [("shift",), ("rest", "north")], zone=zone)
        thirds = Zone([(0, 0), (1, 0), (MOST, 0)], [2])
        words = pushed(0, 0) + [("shift",)] + pushed(2, (1, MOST)) + [("shift",), ("rest", "east")]
        self.fails(words, "great", zone=thirds, done=3 + 2)

    def test_great_of_crossings(self):
        zone = Zone([(0, 0), (MOST, 1), (0, 1), (MOST, -1), (0, 0)], [4])
        self.goes(pushed(4, 0, 1, 2, 3) + [("across",)], zone=zone)
        zone = Zone([(0, 0), (MOST, 1), (0, 1), (MOST - 1, -1), (0, 0)], [4])
        self.fails(pushed(4, 0, 1, 2, 3) + [("across",)], "great", zone=zone)

    def test_full(self):
        for word, takes, puts in PLAIN:
            if puts > takes and word[0] not in ("push",):
                self.fails(pushed(*[0] * 9) + [word], "full", stack=9)
                self.goes(pushed(*[0] * 9) + [word], stack=10)
            elif takes and word[0] in ("swap", "plus", "negate", "load", "place"):
                self.goes(pushed(*[0] * 9) + [word], stack=9)
        self.fails(pushed(1, 2), "full", stack=1)
        self.fails(pushed(*[1] * 101), "full", stack=100)
        self.goes(pushed(*[1] * 100), stack=100)

    def test_great_goes_ahead_of_full(self):
        # No word that puts more than it takes can put what is too long; those that do put as many as they take.
        self.fails(pushed(7) + [("load",)], "great", store=[0] * 7 + [LONG], stack=1)

    def test_things_from_the_lowest_on(self):
        self.fails(pushed((1, 2), 9) + [("hold",)], "whole")
        self.fails(pushed(9, (1, 2)) + [("hold",)], "point")
        self.fails(pushed(9, 9) + [("put",)], "point")
        self.fails(pushed(1, 9) + [("put",)], "worth")
        self.fails(pushed(1, 2, 9, (1, 2), 0) + [("across",)], "point")
        self.fails(pushed(1, 2, 0, (1, 2), 9) + [("across",)], "whole")

    def test_counts_up_to_the_fault(self):
        self.fails([*pushed(1), ("if", [("repeat", 3, [*pushed(1), ("drop",)]), ("call", "a")], [])], "lack",
                   2 + 1 + 3 * 3 + 1, definitions={"a": Program([("drop",)])})
        self.fails([("when", 1, 200, [("drop",)])], "lack", 1)
        self.fails([("when", 13, 200, [("drop",)]), ("repeat", 0, [("drop",)]), ("swap",)], "lack", 2)


if __name__ == "__main__":
    unittest.main()
