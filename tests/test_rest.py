"""Carried numbers, shifts, crossings and rest: points 55 to 57."""

import random
import unittest
from fractions import Fraction

from hintedpoints.errors import NoLine, NoNumber, NoPlace, NoPoint
from hintedpoints.moves import carried, crossing, rested, shifted
from hintedpoints.ways import EAST, NORTH
from hintedpoints.zones import Setting, Zone
from tests.helpers import LONG_PART, MOST, NUMBERS, Looks, exact, no_numbers, no_things, number
from tests.model import carry
from tests.test_zones import no_points

SLANT = (3, 4, 5)
MADE_UP = [((1, 2), (3, 4)), ((5, 6), (7, 8)), ((9, 10), (11, 12)), ((13, 14), (15, 16))]


def no_pairs():
    """Things that are no two numbers."""
    return no_things() + [0, 1, "0 1", (0,), (0, 1, 2), [0, 1], (0, True), (False, 0), (0, None), ("0", 1), (0, (2, 4)),
                          ((1, 1), 0), {0: 0, 1: 1}]


def pulled(zone, *moves):
    """A zone in which points were shifted: tuples (point, by, way)."""
    for point, by, way in moves:
        zone, _ = shifted(zone, Setting(move=way), point, by)
    return zone


class Carried(unittest.TestCase, Looks):
    def test_by_hand(self):
        for value, ahead, behind, wanted in [
                (5, (0, 0), (10, 10), 5), (5, (0, 0), (10, 20), 10), (5, (10, 20), (0, 0), 10),
                (0, (0, 3), (10, 20), 3),
                (-5, (0, 3), (10, 20), -2), (10, (0, 3), (10, 20), 20), (15, (0, 3), (10, 20), 25),
                (15, (10, 20), (0, 3), 25), (5, (0, 10), (10, 0), 5), (2, (0, 10), (10, 0), 8), (5, (0, 7), (10, 7), 7),
                (5, (3, 4), (3, 9), 6), (5, (3, 9), (3, 4), 11), (3, (3, 9), (3, 4), 9), (-1, (3, 3), (3, 3), -1),
                (1, (0, 0), (3, 1), (1, 3)), ((1, 2), (0, 0), (1, (1, 2)), (1, 4))]:
            self.assertEqual(carried(value, ahead, behind), wanted)
            self.assertEqual(carried(behind=behind, ahead=ahead, number=value), wanted)

    def test_all_small_ones(self):
        for value in range(-3, 8):
            for first in (-2, 0, 3):
                for other in (-2, 1, 3, 5):
                    for now in (-1, 4):
                        for other_now in (0, 4, 9):
                            wanted = carry(Fraction(value), (Fraction(first), Fraction(now)),
                                           (Fraction(other), Fraction(other_now)))
                            self.same_number(carried(value, (first, now), (other, other_now)), wanted)

    def test_of_sixty_figures(self):
        for value in NUMBERS:
            told = carried(value, (-MOST, (1, MOST)), (LONG_PART, MOST))
            self.same_number(told, carry(exact(value), (Fraction(-MOST), Fraction(1, MOST)),
                                         (Fraction(*LONG_PART), Fraction(MOST))))

    def test_what_was_in_one_order_stays_so(self):
        chance = random.Random(57)
        for _ in range(200):
            ahead, behind = [(chance.randint(-20, 20), chance.randint(-20, 20)) for _ in range(2)]
            values = sorted(chance.randint(min(ahead[0], behind[0]), max(ahead[0], behind[0])) for _ in range(5))
            told = [exact(carried(value, ahead, behind)) for value in values]
            self.assertIn(told, (sorted(told), sorted(told, reverse=True)))

    def test_alike_moved_neighbours(self):
        for by in (0, 7, (-1, 3)):
            for value in NUMBERS:
                told = carried(value, (3, number(3 + exact(by))), (50, number(50 + exact(by))))
                self.same_number(told, exact(value) + exact(by))

    def test_refused(self):
        for thing in no_numbers():
            self.refused(NoNumber, thing, carried, thing, (0, 0), (1, 1))
            self.refused(NoNumber, thing, carried, thing, None, None)
        for thing in no_pairs():
            self.refused(NoNumber, thing, carried, 1, thing, (1, 1))
            self.refused(NoNumber, thing, carried, 1, thing, None)
            self.refused(NoNumber, thing, carried, 1, (0, 0), thing)


class Shifted(unittest.TestCase, Looks):
    def test_shifted(self):
        zone = Zone([(0, 0), (5, (1, 2))], [1], made_up=MADE_UP)
        for move, place, touched in [(EAST, (9, (1, 2)), (True, False)), (NORTH, (5, (9, 2)), (False, True)),
                                     (SLANT, ((37, 5), (37, 10)), (True, True)),
                                     ((-2, 0, 2), (1, (1, 2)), (True, False))]:
            # Neither the lean, nor the kind, nor square ways matter.
            for along in (EAST, NORTH):
                setting = Setting(move=move, along=along, lean=40, holds=(40, 40))
                told, after = shifted(zone, setting, 1, 4)
                self.assertEqual((told.now(1), told.touched(1), told.first(1)), (place, touched, (5, (1, 2))))
                self.assertEqual((told.now(0), told.made_up(), after), ((0, 0), MADE_UP, setting))
        told, _ = shifted(zone=zone, setting=Setting(), point=-4, distance=(-1, 2))
        self.assertEqual((told.now(-4), told.first(-4), told.touched(-4)), (((29, 2), 16), (13, 14), (True, False)))
        told, _ = shifted(zone, Setting(), 0, 0)
        self.assertEqual((told.now(0), told.touched(0)), ((0, 0), (True, False)))

    def test_refused(self):
        zone = Zone([(0, 0)], [0])
        for thing in no_points(1):
            self.refused(NoPoint, thing, shifted, zone, Setting(), thing, 1)
            self.refused(NoPoint, thing, shifted, zone, Setting(), thing, None)
        for thing in no_numbers():
            self.refused(NoNumber, thing, shifted, zone, Setting(), 0, thing)


class Crossings(unittest.TestCase, Looks):
    def zone(self):
        places = [(7, 7), (0, 0), (10, 0), (3, 5), (3, 9), (0, 10), (10, 10), (0, 0), (1, 3)]
        return Zone(places, [2, 8], made_up=MADE_UP)

    def test_at_a_crossing(self):
        for (a, b, c, d), place in [((1, 2, 3, 4), (3, 0)), ((2, 1, 4, 3), (3, 0)), ((3, 4, 1, 2), (3, 0)),
                                    ((1, 6, 5, 2), (5, 5)), ((1, 8, 5, 6), ((10, 3), 10)), ((1, 6, 1, 2), (0, 0)),
                                    ((-1, 1, 5, 6), ((15, 2), 10))]:
            for setting in (Setting(), Setting(move=EAST, along=NORTH, lean=40, holds=(40, 40))):
                told, after = crossing(self.zone(), setting, 0, a=a, b=b, c=c, d=d)
                self.assertEqual((told.now(0), told.first(0), told.touched(0)), (place, (7, 7), (True, True)))
                self.assertEqual(after, setting)
                self.assertEqual(told.places()[1:], self.zone().places()[1:])
                self.assertEqual(told.made_up(), MADE_UP)

    def test_by_places_now(self):
        zone, _ = shifted(self.zone(), Setting(), 3, 1)
        zone, _ = shifted(zone, Setting(), 4, 1)
        told, _ = crossing(setting=Setting(), zone=zone, d=4, c=3, b=2, a=1, point=-2)
        self.assertEqual((told.now(-2), told.first(-2), told.touched(-2)), ((4, 0), (5, 6), (True, True)))
        # The point may be one of the four.
        told, _ = crossing(zone, Setting(), 3, a=1, b=2, c=3, d=4)
        self.assertEqual(told.now(3), (4, 0))

    def test_no_one_crossing(self):
        for points in [(1, 2, 5, 6), (1, 2, 2, 1), (1, 2, 1, 2), (1, 1, 3, 4), (1, 7, 3, 4), (3, 4, 1, 7), (3, 4, 2, 2),
                       (1, 1, 1, 1), (5, 1, 3, 4)]:
            a, b, c, d = points
            self.refused_at(NoPlace, {"found": points}, crossing, self.zone(), Setting(), 0, a=a, b=b, c=c, d=d)

    def test_refused_point_by_point(self):
        names = ["point", "a", "b", "c", "d"]
        for at, name in enumerate(names):
            for thing in no_points(9):
                points = {**dict.fromkeys(names[:at], 1), **dict.fromkeys(names[at:], 99), name: thing}
                self.refused(NoPoint, thing, crossing, self.zone(), Setting(), **points)
                points = {**dict.fromkeys(names, 1), name: thing}
                self.refused(NoPoint, thing, crossing, self.zone(), Setting(), **points)
        self.assertRaises(TypeError, crossing, self.zone(), Setting(), 0, 1, 2, 3, 4)


class Rested(unittest.TestCase, Looks):
    ROW = [(0, 0), (10, 1), (20, 2), (30, 3), (40, 4)]

    def test_no_point_touched(self):
        zone = Zone(self.ROW, [4], made_up=MADE_UP)
        for line in ("east", "north"):
            self.assertEqual(rested(zone, line), zone)
        zone = pulled(zone, (-1, 50, EAST), (0, 5, NORTH))
        self.assertEqual(rested(zone, "east"), zone)
        self.assertEqual(rested(Zone([], []), "east"), Zone([], []))

    def test_one_point_touched(self):
        zone = pulled(Zone(self.ROW, [4]), (2, 7, EAST))
        told = rested(zone=zone, line="east")
        self.assertEqual(told.places(), [(7, 0), (17, 1), (27, 2), (37, 3), (47, 4)])
        self.assertEqual([told.touched(at) for at in range(5)], [zone.touched(at) for at in range(5)])
        self.assertEqual([told.first(at) for at in range(5)], self.ROW)
        self.assertEqual(rested(zone, "north"), zone)

    def test_two_points_touched(self):
        zone = pulled(Zone(self.ROW, [4]), (0, -10, EAST), (4, 10, EAST))
        self.assertEqual(rested(zone, "east").places(), [(-10, 0), (5, 1), (20, 2), (35, 3), (50, 4)])
        zone = pulled(Zone(self.ROW, [4]), (1, 0, NORTH), (3, 6, NORTH))
        told = rested(zone, "north")
        self.assertEqual(told.places(), [(0, 0), (10, 1), (20, 5), (30, 9), (40, 10)])
        self.assertEqual(told.touched(2), (False, False))

    def test_neighbours_go_around(self):
        places = [(0, 0), (10, 0), (20, 0), (10, 5), (5, 5)]
        zone = pulled(Zone(places, [4]), (1, 2, EAST), (3, 100, EAST))
        # Points 4 and 0 lie between 3 and 1, point 2 between 1 and 3; all of them at 10 at first.
        self.assertEqual([x for x, _ in rested(zone, "east").places()], [100, 12, 22, 110, 105])

    def test_neighbours_at_one_place_are_taken_in_their_order(self):
        zone = pulled(Zone([(10, 0), (12, 0), (10, 0)], [2]), (0, 1, EAST), (2, 5, EAST))
        self.assertEqual(rested(zone, "east").now(1), (13, 0))
        zone = pulled(Zone([(12, 0), (10, 0), (10, 0)], [2]), (1, 1, EAST), (2, 5, EAST))
        # Ahead of the first point stands the last one.
        self.assertEqual(rested(zone, "east").now(0), (17, 0))

    def test_all_points_touched(self):
        zone = pulled(Zone(self.ROW, [4]), *[(at, at, EAST) for at in range(5)])
        self.assertEqual(rested(zone, "east"), zone)

    def test_several_rounds(self):
        zone = pulled(Zone(self.ROW + self.ROW + self.ROW, [4, 9, 14]), (7, 3, EAST), (14, 1, NORTH))
        told = rested(zone, "east")
        self.assertEqual(told.places(), self.ROW + [(x + 3, y) for x, y in self.ROW] + self.ROW[:4] + [(40, 5)])
        told = rested(told, "north")
        wanted = self.ROW + [(x + 3, y) for x, y in self.ROW] + [(x, y + 1) for x, y in self.ROW]
        self.assertEqual(told.places(), wanted)
        zone = pulled(Zone(self.ROW, [0, 4]), (0, 9, EAST))
        self.assertEqual(rested(zone, "east").places(), [(9, 0)] + self.ROW[1:])

    def test_from_its_place_at_first(self):
        # Point 1 was moved northward and rested before; to the east it is carried from its place at first.
        zone = pulled(Zone(self.ROW, [4]), (0, 5, EAST), (1, 100, NORTH))
        told = rested(zone, "east")
        self.assertEqual(told.now(1), (15, 101))
        told = rested(pulled(told, (0, 5, EAST)), "east")
        self.assertEqual(told.now(1), (20, 101))
        self.assertEqual(rested(told, "east"), told)

    def test_all_kinds_like_a_model(self):
        chance = random.Random(56)
        for _ in range(200):
            places = [(chance.randint(0, 9), chance.randint(0, 9)) for _ in range(chance.randint(1, 9))]
            zone = Zone(places, [len(places) - 1])
            touched = {at: chance.randint(-9, 9) for at in range(len(places)) if chance.random() < 0.4}
            zone = pulled(zone, *[(at, by, EAST) for at, by in touched.items()])
            told = rested(zone, "east")
            many = len(places)
            for at, (x, y) in enumerate(places):
                wanted = Fraction(x + touched.get(at, 0))
                if at not in touched and touched:
                    near = [next((at + turn * step) % many for step in range(1, many + 1)
                                 if (at + turn * step) % many in touched) for turn in (-1, 1)]
                    wanted = carry(Fraction(x), *[(Fraction(places[each][0]), Fraction(places[each][0] + touched[each]))
                                                  for each in near])
                self.assertEqual(told.now(at), (number(wanted), y))

    def test_refused_is_what_is_no_line(self):
        zone = pulled(Zone(self.ROW, [4]), (0, 5, EAST))
        for thing in no_things() + ["East", "west", "south", "east ", "e", 0, 1, EAST, NORTH, ("east",), ["north"]]:
            self.refused(NoLine, thing, rested, zone, thing)
            self.refused(NoLine, thing, rested, line=thing, zone=Zone([], []))


if __name__ == "__main__":
    unittest.main()
