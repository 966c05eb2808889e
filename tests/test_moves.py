"""Moves to a measure: point 54."""

import unittest

from hintedpoints.errors import NoNumber, NoPoint, NoWay
from hintedpoints.moves import amid, far_by, far_from, lined, put_at, settled, shifted
from hintedpoints.ways import EAST, NORTH, measure
from hintedpoints.zones import Setting, Zone
from tests.helpers import Looks, no_numbers
from tests.test_zones import no_points

SLANT = (3, 4, 5)
SQUARE = [(EAST, NORTH), (NORTH, EAST), (SLANT, (-4, 3, 5)), ((2, 0, 2), (0, -1, 1))]
PLACES = [(0, 0), (70, 10), (200, 100), (-50, 30), (70, 90)]
MADE_UP = [((1, 2), (3, 4)), ((5, 6), (7, 8)), ((9, 10), (11, 12)), ((13, 14), (15, 16))]


def zone(places=PLACES):
    return Zone(places, [len(places) - 1], made_up=MADE_UP)


def moved_now(told, point=1):
    """Where a point is now."""
    return told[0].now(point)


class Moves(unittest.TestCase, Looks):
    def same_else(self, told, begun, point):
        """Is all else as it was: the other points, where the point was at first, and the ends?"""
        self.assertIs(type(told), tuple)
        self.assertEqual(len(told), 2)
        for at in range(-4, len(begun)):
            self.assertEqual(told[0].first(at), begun.first(at))
            if at != point:
                self.assertEqual((told[0].now(at), told[0].touched(at)), (begun.now(at), begun.touched(at)))
        self.assertEqual(told[0].ends(), begun.ends())

    def test_settled(self):
        told = settled(zone(), Setting(), 1)
        self.assertEqual((told[0].now(1), told[0].touched(1)), ((64, 10), (True, False)))
        self.assertEqual(told[1], Setting(lean=1))
        self.same_else(told, zone(), 1)
        for place, kind, x in [((31, 0), "grid", 0), ((32, 0), "grid", 64), ((-32, 0), "grid", -64),
                               ((0, 0), "half", 32), ((-1, 0), "half", -32), ((47, 0), "double", 32),
                               ((100, 0), "down", 64), ((-100, 0), "up", -128), (((1, 3), 0), "off", (1, 3)),
                               ((10, 0), (7, 5), 12), ((-10, 0), (7, 5), -12)]:
            told = settled(zone=zone([place]), setting=Setting(kind=kind), point=0)
            self.assertEqual(moved_now(told, 0), (x, 0))
            self.assertEqual(told[1], Setting(kind=kind, lean=0))

    def test_settled_by_its_place_now(self):
        begun, _ = shifted(zone(), Setting(), 1, 40)
        told = settled(begun, Setting(), 1)
        self.assertEqual((moved_now(told), told[0].first(1)), ((128, 10), (70, 10)))
        told = settled(zone(), Setting(), -2)
        self.assertEqual((told[0].first(-2), told[0].now(-2)), ((5, 6), (0, 8)))
        self.assertEqual(told[1].told()["lean"], -2)
        self.same_else(told, zone(), -2)

    def test_touched_by_the_way_on_which_it_moves(self):
        for move, along, touched in [(EAST, EAST, (True, False)), (NORTH, NORTH, (False, True)),
                                     (SLANT, EAST, (True, True)), (EAST, SLANT, (True, False)),
                                     ((-1, 0, 1), EAST, (True, False)), ((0, -2, 2), SLANT, (False, True)),
                                     ((-3, 4, 5), NORTH, (True, True))]:
            told = settled(zone(), Setting(move=move, along=along), 1)
            self.assertEqual(told[0].touched(1), touched)
        # A point that stays where it is is touched, too.
        told = settled(zone(), Setting(), 0)
        self.assertEqual((moved_now(told, 0), told[0].touched(0)), ((0, 0), (True, False)))
        # What was touched stays so.
        told = settled(told[0], Setting(move=NORTH, along=NORTH), 0)
        self.assertEqual(told[0].touched(0), (True, True))
        told = settled(settled(zone(), Setting(move=NORTH, along=NORTH), 0)[0], Setting(), 0)
        self.assertEqual(told[0].touched(0), (True, True))

    def test_along_slanted_ways(self):
        setting = Setting(move=EAST, along=SLANT)
        told = settled(zone(), setting, 1)
        # The measure is (70 * 3 + 10 * 4) / 5 = 50, so 64 is 14 more: 70 / 3 further to the east.
        self.assertEqual(moved_now(told), ((280, 3), 10))
        self.assertEqual(measure(moved_now(told), SLANT), 64)
        told = settled(zone(), Setting(move=SLANT, along=NORTH), 4)
        self.assertEqual(moved_now(told, 4), ((101, 2), 64))

    def test_put_at(self):
        for worth, x in [(70, 64), (100, 128), (64, 64), (138, 128), (139, 64), (2, 0), (1, 64), (0, 64), (-500, 64),
                         ((277, 2), 64), ((275, 2), 128), ((4, 3), 64), ((5, 2), 0)]:
            told = put_at(zone(), Setting(), 1, worth)
            self.assertEqual(moved_now(told), (x, 10), worth)
            self.assertEqual(told[1], Setting(lean=1))
            self.same_else(told, zone(), 1)
        # A cut-in just met, and just passed.
        setting = Setting(cutin=(1, 2), kind="off")
        self.assertEqual(moved_now(put_at(zone(), setting, 1, (141, 2))), ((141, 2), 10))
        self.assertEqual(moved_now(put_at(zone(), setting, 1, (139, 2))), ((139, 2), 10))
        self.assertEqual(moved_now(put_at(zone(), setting, 1, (212, 3))), (70, 10))
        self.assertEqual(moved_now(put_at(zone(), Setting(cutin=0, kind="off"), 1, 70)), (70, 10))
        self.assertEqual(moved_now(put_at(zone(), Setting(cutin=0), worth=71, point=1)), (64, 10))

    def test_put_at_of_the_first_point(self):
        told = put_at(zone(), Setting(kind="off"), 0, 5)
        self.assertEqual((told[0].first(0), told[0].now(0)), ((0, 0), (5, 0)))
        told = put_at(zone(), Setting(kind="off"), 0, 500)
        self.assertEqual((told[0].first(0), told[0].now(0)), ((0, 0), (0, 0)))

    def test_put_at_of_a_made_up_point(self):
        told = put_at(zone(), Setting(), -1, 1000)
        self.assertEqual((told[0].first(-1), told[0].now(-1)), ((1000, 2), (1024, 2)))
        self.assertEqual(told[0].touched(-1), (True, False))
        self.assertEqual(told[1], Setting(lean=-1))
        self.assertEqual(told[0].made_up(), [((1000, 2), (1024, 2))] + MADE_UP[1:])
        self.assertEqual(told[0].places(), PLACES)
        told = put_at(zone(), Setting(move=SLANT, along=NORTH, kind="off", cutin=0), -4, -6)
        self.assertEqual((told[0].first(-4), told[0].now(-4)), ((-2, -6), (-2, -6)))
        self.assertEqual(told[0].touched(-4), (True, True))

    def test_far_from(self):
        # At first 70 from the lean, which is at 10 now.
        begun, _ = shifted(zone(), Setting(), 0, 10)
        told = far_from(begun, Setting(), 1)
        self.assertEqual(moved_now(told), (74, 10))
        self.assertEqual(told[1], Setting())
        self.same_else(told, begun, 1)
        self.assertEqual(told[0].touched(1), (True, False))
        told = far_from(begun, Setting(kind="off", least=71), 1)
        self.assertEqual(moved_now(told), (81, 10))
        told = far_from(begun, Setting(kind="off", least=100), 3)
        self.assertEqual(moved_now(told, 3), (-90, 30))
        told = far_from(begun, Setting(kind="down", least=0), 3)
        self.assertEqual(moved_now(told, 3), (10, 30))
        told = far_from(begun, Setting(kind="half", least=0, lean=2), 0)
        self.assertEqual(moved_now(told, 0), (200 - 224, 0))

    def test_far_from_of_a_distance_of_nought(self):
        told = far_from(zone(), Setting(lean=1), 4)
        self.assertEqual(moved_now(told, 4), (134, 90))
        self.assertEqual(moved_now(far_from(zone(), Setting(lean=1, least=0), 4), 4), (70, 90))
        self.assertEqual(moved_now(far_from(zone(), Setting(lean=1, least=0, kind="half"), 4), 4), (102, 90))
        self.assertEqual(moved_now(far_from(zone(), Setting(lean=4), 4), 4), (134, 90))

    def test_far_from_a_made_up_point(self):
        # At first from 5 to 70, the made-up one at 7 now.
        self.assertEqual(moved_now(far_from(zone(), Setting(lean=-2), 1)), (71, 10))
        told = far_from(zone(), Setting(lean=1), -3)
        self.assertEqual((told[0].now(-3), told[0].first(-3)), ((6, 12), (9, 10)))

    def test_far_by(self):
        for worth, x in [(70, 64), (100, 128), (-100, 128), (138, 128), (139, 64), (2, 64), (0, 64), (-70, 64)]:
            told = far_by(zone(), Setting(), 1, worth)
            self.assertEqual(moved_now(told), (x, 10), worth)
            self.assertEqual(told[1], Setting())
            self.same_else(told, zone(), 1)
        # A distance below nought: -50.
        for worth, x in [(50, -64), (100, -128), (-100, -128), (118, -128), (119, -64), (0, -64), (-118, -128)]:
            self.assertEqual(moved_now(far_by(zone(), Setting(), 3, worth), 3), (x, 30), worth)
        off = Setting(kind="off", least=0)
        for worth, x in [(50, -50), (60, -60), (-60, -60), (118, -118), (119, -50), (0, 0), (-3, -3), ((237, 2), -50)]:
            self.assertEqual(moved_now(far_by(zone(), off, worth=worth, point=3), 3), (x, 30), worth)

    def test_far_by_a_worth_of_nought(self):
        # What is rounded is nought, which counts as above it; the least one has the sign of the distance.
        self.assertEqual(moved_now(far_by(zone(), Setting(kind="half", least=0), 3, 0), 3), (32, 30))
        self.assertEqual(moved_now(far_by(zone(), Setting(kind="half", least=32), 3, 0), 3), (32, 30))
        self.assertEqual(moved_now(far_by(zone(), Setting(kind="half", least=33), 3, 0), 3), (-33, 30))
        self.assertEqual(moved_now(far_by(zone(), Setting(kind="off", least=7), 3, 0), 3), (-7, 30))
        self.assertEqual(moved_now(far_by(zone(), Setting(kind="off", least=7, cutin=49), 3, 0), 3), (-50, 30))
        self.assertEqual(moved_now(far_by(zone(), Setting(kind="off", least=7, lean=2), 4, -70), 4), (200 - 70, 90))

    def test_far_by_of_a_distance_of_nought(self):
        setting = Setting(lean=1, kind="off", least=0)
        for worth, x in [(0, 70), (5, 75), (-5, 75), (68, 138), (69, 70), (-69, 70)]:
            self.assertEqual(moved_now(far_by(zone(), setting, 4, worth), 4), (x, 90))
        self.assertEqual(moved_now(far_by(zone(), setting.changed(least=9), 4, -5), 4), (79, 90))
        self.assertEqual(moved_now(far_by(zone(), setting.changed(cutin=5), 4, -5), 4), (75, 90))
        self.assertEqual(moved_now(far_by(zone(), setting.changed(cutin=(9, 2)), 4, -5), 4), (70, 90))

    def test_lined(self):
        begun, _ = shifted(zone(), Setting(), 0, 10)
        told = lined(begun, Setting(), 1)
        self.assertEqual((moved_now(told), told[0].touched(1)), ((10, 10), (True, False)))
        self.assertEqual(told[1], Setting())
        self.same_else(told, begun, 1)
        told = lined(zone(), Setting(move=NORTH, along=NORTH, lean=-1), point=2)
        self.assertEqual(moved_now(told, 2), (200, 4))
        self.assertEqual(moved_now(lined(zone(), Setting(lean=2, along=SLANT), 3), 3), ((880, 3), 30))
        told = lined(zone(), Setting(lean=2), 2)
        self.assertEqual((moved_now(told, 2), told[0].touched(2)), ((200, 100), (True, False)))

    def test_amid(self):
        begun, _ = shifted(zone(), Setting(), 2, 100)
        setting = Setting(holds=(0, 2))
        told = amid(begun, setting, 1)
        self.assertEqual((moved_now(told), told[0].touched(1)), ((105, 10), (True, False)))
        self.assertEqual(told[1], setting)
        self.same_else(told, begun, 1)
        for holds in ((0, 2), (2, 0)):
            self.assertEqual(moved_now(amid(begun, Setting(holds=holds), 3), 3), (-50, 30))
            self.assertEqual(moved_now(amid(begun, Setting(holds=holds), point=2), 2), (300, 100))
        # At first, not now: the point itself was moved far away.
        begun, _ = shifted(begun, Setting(), 1, 5000)
        self.assertEqual(moved_now(amid(begun, setting, 1)), (105, 10))

    def test_amid_holds_at_one_place(self):
        begun, _ = shifted(zone(), Setting(), 4, 30)
        for point, x in ((0, 0), (2, 200), (3, -50)):
            self.assertEqual(moved_now(amid(begun, Setting(holds=(1, 4)), point), point)[0], x)
            self.assertEqual(moved_now(amid(begun, Setting(holds=(4, 1)), point), point)[0], x + 30)
            self.assertEqual(moved_now(amid(begun, Setting(holds=(4, 4)), point), point)[0], x + 30)

    def test_the_zone_handed_in_is_not_changed(self):
        begun, setting = zone(), Setting(holds=(0, 2))
        for act in (settled, far_from, lined, amid):
            self.assertEqual(act(begun, setting, 1), act(begun, setting, 1))
        put_at(begun, setting, 1, 5)
        put_at(begun, setting, -1, 5)
        far_by(begun, setting, 1, 5)
        self.assertEqual((begun, setting), (zone(), Setting(holds=(0, 2))))


class Refused(unittest.TestCase, Looks):
    def test_first_a_point_that_is_none_of_the_zone(self):
        square = Setting(move=EAST, along=NORTH, lean=40, holds=(40, 41))
        for thing in no_points(5):
            for act in (settled, far_from, lined, amid):
                self.refused(NoPoint, thing, act, zone(), Setting(), thing)
                self.refused(NoPoint, thing, act, zone(), point=thing, setting=square)
            for act in (put_at, far_by):
                self.refused(NoPoint, thing, act, zone(), Setting(), thing, 5)
                self.refused(NoPoint, thing, act, zone(), square, worth=None, point=thing)

    def test_then_the_lean_and_the_holds(self):
        square = Setting(move=EAST, along=NORTH, lean=40, holds=(40, 41))
        for act in (far_from, lined):
            self.refused_at(NoPoint, {"found": 40}, act, zone(), square, 1)
        self.refused_at(NoPoint, {"found": 40}, far_by, zone(), square, 1, "1")
        self.refused_at(NoPoint, {"found": 40}, amid, zone(), square, 1)
        self.refused_at(NoPoint, {"found": 41}, amid, zone(), square.changed(holds=(0, 41)), 1)
        self.refused_at(NoPoint, {"found": 5}, amid, zone(), square.changed(holds=(5, 0)), 1)
        self.refused_at(NoPoint, {"found": 0}, far_from, Zone([], []), Setting(), -1)
        # Where the lean or the holds are nothing to a move, they may be any.
        for told in (settled(zone(), Setting(lean=40, holds=(40, 40)), 1),
                     put_at(zone(), Setting(lean=40, holds=(40, 40)), 1, 64)):
            self.assertEqual(told[1], Setting(lean=1, holds=(40, 40)))
        self.assertEqual(moved_now(lined(zone(), Setting(holds=(40, 40)), 1)), (0, 10))
        self.assertEqual(moved_now(amid(zone(), Setting(lean=40), 1)), (70, 10))

    def test_then_what_is_no_number(self):
        for thing in no_numbers():
            for setting in (Setting(), Setting(move=EAST, along=NORTH)):
                self.refused(NoNumber, thing, put_at, zone(), setting, 1, thing)
                self.refused(NoNumber, thing, put_at, zone(), setting, worth=thing, point=-1)
                self.refused(NoNumber, thing, far_by, zone(), setting, 1, thing)

    def test_then_ways_that_are_square(self):
        for move, along in SQUARE:
            setting = Setting(move=move, along=along, kind="off", least=0)
            for act in (settled, far_from, lined, amid):
                for point in (0, 1, -1):
                    self.refused_both(move, along, act, zone(), setting, point)
            for act in (put_at, far_by):
                for point in (0, 1, -1):
                    self.refused_both(move, along, act, zone(), setting, point, 0)


if __name__ == "__main__":
    unittest.main()
