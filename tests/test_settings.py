"""Settings: point 53."""

import unittest

from hintedpoints.errors import NoNumber, NoPoint, NoRound, NoWay
from hintedpoints.ways import EAST, NORTH
from hintedpoints.zones import Setting
from tests.helpers import LONG_PART, MOST, Looks, no_numbers, no_things, objects
from tests.test_ways import no_ways

FIRST = {"move": EAST, "along": EAST, "kind": "grid", "least": 64, "cutin": 68, "lean": 0, "holds": (0, 0)}
OTHERS = {
    "move": [NORTH, (3, 4, 5), (2, 0, 2)], "along": [NORTH, (-3, 4, 5), (-1, 0, 1)],
    "kind": ["half", "double", "down", "up", "off", (64, 0), (64, 63), ((1, 2), (1, 3)), (1, 0), (MOST, MOST - 1)],
    "least": [0, 1, (1, 2), MOST, LONG_PART], "cutin": [0, 64, (3, 2), MOST], "lean": [-4, -1, 1, 47],
    "holds": [(-4, 47), (47, -4), (0, 1), (5, 5)]}


def no_kinds():
    """Things that are no kind of rounding, and no tuple of a period and a phase."""
    return no_things() + [0, 64, "Grid", "grid ", ("grid",), (64,), (64, 0, 0), [64, 0], (0, 0), (-1, 0), (64, 64),
                          (64, 65), (64, -1), (64, True), (True, 0), (64, None), ("64", 0), ((1, 2), (1, 2)),
                          ((2, 4), 0), (64, (2, 4)), ((-1, 2), 0), (1, 1), (1, 2), ("grid", 0)]


def no_leans():
    """Things that are no numbers of points."""
    return no_numbers() + [-5, 48, (1, 2), (3, 2), MOST, -MOST]


def no_holds():
    """Things that are no two numbers of points."""
    return no_things() + [0, 1, [0, 0], [0, 1], (0,), (0, 0, 0), (0, True), (False, 0), (0, -5), (-5, 0), (48, 0),
                          (0, 48), (0, None), ("0", 0), ((1, 2), 0), (0, (1, 2)), {0: 0, 1: 1}, (0, [0])]


class Settings(unittest.TestCase, Looks):
    def test_at_first(self):
        told = Setting().told()
        self.assertEqual(told, FIRST)
        self.assertEqual(list(told), list(FIRST))
        self.assertIs(type(told), dict)
        self.assertEqual(Setting(), Setting(**FIRST))

    def test_each_by_its_name(self):
        for word, things in OTHERS.items():
            for thing in things:
                wanted = {**FIRST, word: thing}
                self.assertEqual(Setting(**{word: thing}).told(), wanted)
                self.assertEqual(list(Setting(**{word: thing}).told()), list(FIRST))
                self.assertEqual(Setting().changed(**{word: thing}).told(), wanted)
        self.assertEqual(Setting(holds=(1, 2), lean=3, cutin=4, least=5, kind="up", along=NORTH, move=(3, 4, 5)).told(),
                         {"move": (3, 4, 5), "along": NORTH, "kind": "up", "least": 5, "cutin": 4, "lean": 3,
                          "holds": (1, 2)})
        self.assertRaises(TypeError, Setting, EAST)

    def test_changed(self):
        setting = Setting(least=5, kind=(7, 2))
        told = setting.changed(lean=9, along=NORTH)
        self.assertEqual(told, Setting(least=5, kind=(7, 2), lean=9, along=NORTH))
        self.assertEqual(setting, Setting(least=5, kind=(7, 2)))
        self.assertEqual(setting.changed(), setting)
        self.assertEqual(setting.changed(move=None, along=None, kind=None, least=None, cutin=None, lean=None,
                                         holds=None), setting)
        self.assertEqual(setting.changed(least=0, lean=0, cutin=0), Setting(least=0, kind=(7, 2), cutin=0))
        self.assertRaises(TypeError, setting.changed, NORTH)

    def test_a_dict_told_is_a_new_one(self):
        setting = Setting()
        setting.told()["least"] = 5
        setting.told().clear()
        self.assertEqual(setting.told(), FIRST)

    def test_equal_is_what_has_the_same(self):
        settings = [Setting()] + [Setting(**{word: thing}) for word, things in OTHERS.items() for thing in things]
        for at, one in enumerate(settings):
            for other_at, other in enumerate(settings):
                self.assertIs(one == other, at == other_at)
                self.assertIs(one != other, at != other_at)
        for thing in no_things() + [FIRST, 1, "grid"]:
            if not isinstance(thing, Setting):
                self.assertIs(Setting() == thing, False)
                self.assertIs(thing == Setting(), False)


class Refused(unittest.TestCase, Looks):
    def acts(self):
        """What makes settings; None is no wrong thing where one is changed."""
        return [(Setting, []), (Setting(least=9).changed, [None])]

    def refused_all(self, kind, word, things, behind):
        """Are these refused by this word, with wrong things behind them or without?"""
        for act, right in self.acts():
            for thing in things:
                if thing not in right:
                    self.refused(kind, thing, act, **{word: thing})
                    self.refused(kind, thing, act, **{**dict.fromkeys(behind, "?"), word: thing})

    def test_in_their_order(self):
        words = list(FIRST)
        self.refused_all(NoWay, "move", no_ways(), words[1:])
        self.refused_all(NoWay, "along", no_ways(), words[2:])
        self.refused_all(NoRound, "kind", no_kinds(), words[3:])
        for at in (3, 4):
            self.refused_all(NoNumber, words[at], no_numbers() + [-1, (-1, 2), -MOST, (-1, MOST)], words[at + 1:])
        self.refused_all(NoPoint, "lean", no_leans(), words[6:])
        self.refused_all(NoPoint, "holds", no_holds(), [])

    def test_objects_are_refused(self):
        for thing in objects():
            self.refused(NoPoint, thing, Setting, holds=thing)
            self.refused(NoRound, thing, Setting().changed, kind=thing, least=thing)


if __name__ == "__main__":
    unittest.main()
