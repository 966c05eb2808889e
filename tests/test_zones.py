"""Zones: points 51 and 52."""

import unittest

from hintedpoints.errors import NoPlace, NoPoint, NoZone
from hintedpoints.moves import settled, shifted
from hintedpoints.zones import Setting, Zone
from tests.helpers import LONG_PART, MOST, Looks, no_numbers, no_things, objects

PLACES = [(0, 0), (64, 10), ((1, 2), (-7, 3)), (LONG_PART, -MOST), (5, 5)]
MADE_UP = [((1, 2), (3, 4)), ((5, 6), (7, 8)), (((1, 2), 0), (0, (1, 3))), ((9, 9), (9, 9))]
NOUGHTS = [((0, 0), (0, 0))] * 4


def no_places():
    """Things that are no places."""
    return no_things() + [0, "0 0", (0,), (0, 0, 0), [0, 0], (0, True), (False, 0), (0, None), ("0", 0), (0, (2, 4)),
                          ((1, 1), 0), ([1], 0), {0: 0, 1: 0}]


def no_lists():
    """Things that are no lists of at most 48 things."""
    return [None, True, 0, "", "ab", {}, {0: (0, 0)}, [(0, 0)] * 49, ((0, 0),) * 49, [None] * 49] + objects()


def no_points(many):
    """Things that are no points of a zone of so many."""
    return no_numbers() + [(1, 2), (3, 2), many, many + 1, -5, -6, 48, MOST, -MOST]


class Zones(unittest.TestCase, Looks):
    def test_it_tells_what_it_has(self):
        zone = Zone(PLACES, [2, 4], made_up=MADE_UP)
        for at, place in enumerate(PLACES):
            self.assertEqual(zone.first(at), place)
            self.assertEqual(zone.now(point=at), place)
            self.assertEqual(zone.touched(at), (False, False))
        for at, (first, now) in enumerate(MADE_UP):
            self.assertEqual(zone.first(point=-1 - at), first)
            self.assertEqual(zone.now(-1 - at), now)
            self.assertEqual(zone.touched(point=-1 - at), (False, False))
        self.assertEqual(zone.places(), PLACES)
        self.assertEqual(zone.ends(), [2, 4])
        self.assertEqual(zone.made_up(), MADE_UP)
        self.assertEqual(len(zone), 5)
        for told in (zone.places(), zone.ends(), zone.made_up()):
            self.assertIs(type(told), list)
        for told in (zone.first(0), zone.touched(-1), zone.made_up()[0], zone.made_up()[0][1], zone.places()[2]):
            self.assertIs(type(told), tuple)

    def test_made_up_points_are_at_nought_where_nothing_is_told(self):
        for zone in (Zone(PLACES, [4]), Zone(places=PLACES, ends=(4,), made_up=None)):
            self.assertEqual(zone.made_up(), NOUGHTS)
            for at in (-1, -2, -3, -4):
                self.assertEqual((zone.first(at), zone.now(at)), ((0, 0), (0, 0)))

    def test_without_points_and_of_48(self):
        for zone in (Zone([], []), Zone((), ()), Zone(ends=[], places=())):
            self.assertEqual((len(zone), zone.places(), zone.ends(), zone.made_up()), (0, [], [], NOUGHTS))
            self.assertRaises(NoPoint, zone.now, 0)
            self.assertEqual(zone.now(-4), (0, 0))
        places = [(at, -at) for at in range(48)]
        for ends in ([47], list(range(48)), [0, 47], [0, 1, 2, 46, 47]):
            zone = Zone(places, ends)
            self.assertEqual((len(zone), zone.places(), zone.ends()), (48, places, ends))
            self.assertEqual((zone.now(47), zone.now(0)), ((47, -47), (0, 0)))

    def test_lists_may_be_tuples(self):
        self.assertEqual(Zone(tuple(PLACES), (2, 4), made_up=tuple(MADE_UP)), Zone(PLACES, [2, 4], made_up=MADE_UP))

    def test_it_keeps_copies_and_tells_new_lists(self):
        places, ends, made_up = list(PLACES), [2, 4], list(MADE_UP)
        zone = Zone(places, ends, made_up=made_up)
        places.clear()
        ends.append(9)
        made_up.reverse()
        zone.places().clear()
        zone.ends().clear()
        zone.made_up().clear()
        self.assertEqual(zone, Zone(PLACES, [2, 4], made_up=MADE_UP))
        self.assertEqual((zone.places(), zone.ends(), zone.made_up(), len(zone)), (PLACES, [2, 4], MADE_UP, 5))

    def test_refused_is_what_is_no_point(self):
        zone = Zone(PLACES, [4])
        for thing in no_points(5):
            for act in (zone.first, zone.now, zone.touched):
                self.refused(NoPoint, thing, act, thing)
                self.refused(NoPoint, thing, act, point=thing)

    def test_moves_tell_other_ones(self):
        zone = Zone(PLACES, [4], made_up=MADE_UP)
        told, _ = shifted(zone, Setting(), 1, 5)
        self.assertEqual(zone, Zone(PLACES, [4], made_up=MADE_UP))
        self.assertEqual((told.first(1), told.now(1), told.touched(1)), ((64, 10), (69, 10), (True, False)))
        self.assertEqual(told.places(), [PLACES[0], (69, 10)] + PLACES[2:])
        told, _ = shifted(told, Setting(move=(0, 1, 1)), -2, 3)
        self.assertEqual(told.made_up(), [MADE_UP[0], ((5, 6), (7, 11))] + MADE_UP[2:])
        self.assertEqual((told.touched(-2), told.touched(-1), told.touched(1)),
                         ((False, True), (False, False), (True, False)))
        self.assertEqual((told.ends(), len(told)), ([4], 5))


class Equal(unittest.TestCase):
    def test_equal_is_what_has_the_same(self):
        self.assertTrue(Zone(PLACES, [4]) == Zone(tuple(PLACES), (4,), made_up=NOUGHTS))
        self.assertFalse(Zone(PLACES, [4]) != Zone(PLACES, [4]))
        one, _ = shifted(Zone(PLACES, [4]), Setting(), 0, 5)
        other, _ = shifted(Zone(PLACES, [4]), Setting(), 0, 5)
        self.assertTrue(one == other)

    def test_other_ones_are_not(self):
        zone = Zone([(0, 0), (64, 0)], [1])
        touched, _ = settled(zone, Setting(), 0)
        there, _ = shifted(zone, Setting(), 0, 5)
        back, _ = shifted(there, Setting(), 0, -5)
        made_up, _ = settled(zone, Setting(), -3)
        zones = [zone, touched, there, made_up, shifted(zone, Setting(), 1, 5)[0], Zone([(5, 0), (64, 0)], [1]),
                 Zone([(0, 0), (64, 0)], [0, 1]), Zone([], []), Zone([(0, 0)], [0]),
                 Zone([(0, 0), (64, 0)], [1], made_up=MADE_UP), Zone([(64, 0), (0, 0)], [1]),
                 Zone([], [], made_up=[((0, 0), (0, 1))] + NOUGHTS[1:]),
                 Zone([], [], made_up=NOUGHTS[1:] + [((0, 0), (0, 1))]),
                 Zone([], [], made_up=NOUGHTS[1:] + [((0, 1), (0, 0))])]
        for at, one in enumerate(zones):
            for other_at, other in enumerate(zones):
                self.assertIs(one == other, at == other_at, (at, other_at))
                self.assertIs(one != other, at != other_at)
        self.assertEqual(back, touched)

    def test_nothing_else_is(self):
        zone = Zone(PLACES, [4])
        for thing in no_things() + [PLACES, (PLACES, [4]), 5]:
            self.assertIs(zone == thing, False)
            self.assertIs(thing == zone, False)
            self.assertIs(zone != thing, True)


class Refused(unittest.TestCase, Looks):
    def test_the_places(self):
        for thing in no_lists():
            self.refused(NoZone, thing, Zone, thing, [4])
            self.refused(NoZone, thing, Zone, made_up=1, ends=None, places=thing)
        for thing in no_places():
            self.refused(NoPlace, thing, Zone, [thing], [0])
            self.refused(NoPlace, thing, Zone, ((0, 0), thing, None), None, made_up=1)

    def test_then_the_ends(self):
        bad = [None, True, 4, "4", "", {}, {4: 4}, [], (), [5], [3], [4, 4], [4, 3], [2, 2, 4], [3, 2, 4], [-1, 4],
               [True, 4], [False, 4], [4, 5], [None], ["4"], [2, (7, 2), 4], [(4, 1)], [[4]], [4, None], [(9, 2)],
               [0, 1, 2, 3], [0, 1, 2, 3, 4, 5], [MOST], [2, 4, 4], (1, 0, 4), deep_ends()] + objects()
        for thing in bad:
            self.refused(NoZone, thing, Zone, PLACES, thing)
            self.refused(NoZone, thing, Zone, PLACES, made_up=1, ends=thing)
        for thing in ([0], [-1], (0,), None, [None], {}):
            self.refused(NoZone, thing, Zone, [], thing)
        for ends in ([4], (0, 1, 2, 3, 4), [0, 4], [1, 3, 4]):
            self.assertEqual(Zone(PLACES, ends).ends(), list(ends))

    def test_then_the_made_up_points(self):
        good = ((0, 0), (0, 0))
        bad = [True, False, 0, "", "abcd", {}, [], (), [good] * 3, [good] * 5, (good,) * 3, [good] * 3 + [None],
               [good] * 3 + [[(0, 0), (0, 0)]], [good] * 3 + [((0, 0),)], [good] * 3 + [((0, 0), (0, 0), (0, 0))],
               [((0, 0), (0, True))] + [good] * 3, [([0, 0], (0, 0))] + [good] * 3, [(0, 0)] * 4, [(0, 0, 0, 0)] * 4,
               [good, good, good, ((0, 0), (0, (2, 4)))], [good, good, good, (None, (0, 0))], {0: good}] + objects()
        for thing in bad:
            self.refused(NoZone, thing, Zone, PLACES, [4], made_up=thing)
            self.refused(NoZone, thing, Zone, [], [], made_up=thing)
        self.assertRaises(TypeError, Zone, [], [], NOUGHTS)

    def test_what_is_handed_in_is_not_changed(self):
        places, ends, made_up = [(1, 2)], [0], [((0, 0), (1, 1))] * 4
        zone = Zone(places, ends, made_up=made_up)
        settled(zone, Setting(), 0)
        self.assertEqual((places, ends, made_up), ([(1, 2)], [0], [((0, 0), (1, 1))] * 4))


def deep_ends():
    """Ends that stand within a list."""
    return [[0, 1, 2, 3, 4]]


if __name__ == "__main__":
    unittest.main()
