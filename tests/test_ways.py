"""Places and ways: points 2, 3, 16 and 17."""

import unittest
from fractions import Fraction

from hintedpoints.errors import NoNumber, NoPlace, NoWay
from hintedpoints.ways import EAST, NORTH, is_way, measure, moved, slide, way_of
from tests.helpers import LONG_PART, MOST, Looks, exact, no_numbers, no_things

WAYS = [EAST, NORTH, (-1, 0, 1), (0, -1, 1), (3, 4, 5), (-3, 4, 5), (4, -3, 5), (-4, -3, 5), (5, 12, 13), (2, 0, 2),
        (0, -7, 7), (600, 800, 1000), (-1000, 0, 1000), (0, 1000, 1000), (280, -960, 1000), (6, 8, 10)]
PLACES = [(0, 0), (64, 0), (0, 64), (-32, 17), ((1, 2), (-2, 3)), ((7, 4), 5), (1, 2), (MOST, -MOST),
          (LONG_PART, (-1, MOST))]
BYS = [0, 1, -1, 64, (1, 2), (-7, 3), MOST, LONG_PART]
# What looks like a way and is none.
BENT = [(0, 0, 0), (0, 0, 1), (1, 1, 1), (1, 1, 2), (1, 0, -1), (-3, 4, -5), (3, 4, 6), (3, 4, 4), (0, 1, 0), (1, 0, 0),
        (1001, 0, 1001), (0, -1001, 1001), (600, 801, 1001), (0, MOST, MOST), (-MOST, 0, MOST), (2, 0, 1), (1, 0, 2)]


def no_ways():
    """Things that are no ways, those that look like some with them."""
    return no_things() + BENT + [
        "east", "north", 0, 1, (1, 2), (1, 0), (0, 1), [1, 0, 1], [0, 1, 1], [3, 4, 5], (1, 0, 1, 0), (EAST,),
        (True, 0, 1), (1, False, 1), (1, 0, True), (False, 1, 1), (0, True, 1), ("1", 0, 1), (1, None, 1),
        ((1, 2), 0, 1), ((3, 5), (4, 5), 1), ([3], 4, 5), (3, [4], 5), (3, 4, [5]), (3, 4, None), {1: 0, 0: 1, 2: 1}]


def no_places():
    """Things that are no places, those that look like some with them."""
    return no_things() + [0, 5, "0 0", "0, 0", (0,), (0, 0, 0), [0, 0], [1, 2], (0, True), (False, 0), (True, True),
                          (None, 0), (0, None), ("0", 0), (0, "0"), (0, (2, 4)), ((2, 4), 0), ((1, 1), 0), ([1], 0),
                          (0, [1, 2]), (0, {}), ((1, 2, 3), 0), {0: 0, 1: 0}, EAST]


def measured(place, way):
    """The measure of a place by a way, as a Fraction."""
    return (exact(place[0]) * way[0] + exact(place[1]) * way[1]) / way[2]


def slid(place, by, way):
    """Where a slide along a way leads to, as Fractions."""
    return (exact(place[0]) + exact(by) * way[0] / way[2], exact(place[1]) + exact(by) * way[1] / way[2])


class Ways(unittest.TestCase, Looks):
    def test_east_and_north(self):
        self.assertEqual(EAST, (1, 0, 1))
        self.assertEqual(NORTH, (0, 1, 1))

    def test_ways_of_two_numbers(self):
        for way in WAYS:
            told = way_of(way[0], way[1])
            self.assertEqual(told, way)
            self.assertIs(type(told), tuple)
            self.assertEqual(way_of(b=way[1], a=way[0]), way)

    def test_all_small_numbers(self):
        for a in range(-40, 41):
            for b in range(-40, 41):
                longs = [long for long in range(1, 60) if long * long == a * a + b * b]
                if longs:
                    self.assertEqual(way_of(a, b), (a, b, longs[0]))
                else:
                    with self.assertRaises(NoWay) as caught:
                        way_of(a, b)
                    self.assertEqual(caught.exception.found, (a, b))

    def test_the_long_is_counted_up_to_1000(self):
        self.assertEqual(way_of(1000, 0), (1000, 0, 1000))
        self.assertEqual(way_of(0, -1), (0, -1, 1))
        self.assertEqual(way_of(352, -936), (352, -936, 1000))
        for a, b in ((1001, 0), (0, -1001), (495, -4888), (1000, 1000), (MOST, 0), (3 * 10 ** 59, 4 * 10 ** 59),
                     (MOST, -MOST), (0, 0), (1, 1), (1000, 1)):
            self.refused_both(a, b, way_of, a, b)

    def test_refused_where_one_is_no_whole_number(self):
        for thing in no_numbers() + [(1, 2), (3, 5)]:
            self.refused_both(thing, 0, way_of, thing, 0)
            self.refused_both(0, thing, way_of, 0, thing)
            self.refused_both(thing, thing, way_of, thing, thing)
            self.refused_both(1, thing, way_of, b=thing, a=1)

    def test_what_is_a_way(self):
        for way in WAYS:
            self.assertIs(is_way(way), True, way)
            self.assertIs(is_way(thing=way), True, way)

    def test_what_is_none(self):
        for thing in no_ways():
            self.assertIs(is_way(thing), False, thing)

    def test_all_small_triples(self):
        for a in range(-13, 14):
            for b in range(-13, 14):
                for long in range(-2, 20):
                    self.assertIs(is_way((a, b, long)), long > 0 and a * a + b * b == long * long)


class Measures(unittest.TestCase, Looks):
    def test_measures(self):
        for place in PLACES:
            for way in WAYS:
                self.same_number(measure(place, way), measured(place, way))
                self.same_number(measure(way=way, place=place), measured(place, way))

    def test_by_hand(self):
        self.assertEqual(measure((5, 7), EAST), 5)
        self.assertEqual(measure((5, 7), NORTH), 7)
        self.assertEqual(measure((5, 7), (3, 4, 5)), (43, 5))
        self.assertEqual(measure(((1, 2), (1, 3)), (-3, 4, 5)), (-1, 30))
        self.assertEqual(measure((1, 2), (-1, 0, 1)), -1)

    def test_refused(self):
        for thing in no_places():
            self.refused(NoPlace, thing, measure, thing, EAST)
            self.refused(NoPlace, thing, measure, way=None, place=thing)
        for thing in no_ways():
            self.refused(NoWay, thing, measure, (0, 0), thing)
            self.refused(NoWay, thing, measure, (0, 0), way=thing)


class Slides(unittest.TestCase, Looks):
    def same_place(self, told, wanted):
        self.assertIs(type(told), tuple)
        self.assertEqual(len(told), 2)
        self.same_number(told[0], wanted[0])
        self.same_number(told[1], wanted[1])

    def test_slides(self):
        for place in PLACES:
            for by in BYS:
                self.same_place(slide(place, by), slid(place, by, EAST))
                for way in WAYS:
                    told = slide(place, by, way=way)
                    self.same_place(told, slid(place, by, way))
                    self.same_place(slide(way=way, by=by, place=place), slid(place, by, way))
                    self.same_number(measure(told, way), measured(place, way) + exact(by))

    def test_slides_by_hand(self):
        self.assertEqual(slide((1, 2), 3), (4, 2))
        self.assertEqual(slide((1, 2), 3, way=NORTH), (1, 5))
        self.assertEqual(slide((1, 2), 3, way=(3, -4, 5)), ((14, 5), (-2, 5)))
        self.assertEqual(slide((1, 2), (-5, 2), way=(3, 4, 5)), ((-1, 2), 0))
        self.assertEqual(slide((1, 2), 3, way=(2, 0, 2)), (4, 2))

    def test_moves(self):
        for place in PLACES:
            for by in BYS:
                self.same_place(moved(place, by), slid(place, by, EAST))
                for move in WAYS:
                    for along in WAYS:
                        square = move[0] * along[0] + move[1] * along[1] == 0
                        if not square:
                            told = moved(place, by, move=move, along=along)
                            self.same_number(measure(told, along), measured(place, along) + exact(by))
                            # It lies in line with the place it comes from, along move.
                            across = (-move[1], move[0], move[2])
                            self.same_number(measure(told, across), measured(place, across))

    def test_moves_by_hand(self):
        self.assertEqual(moved((1, 2), 3), (4, 2))
        self.assertEqual(moved((1, 2), 3, move=NORTH, along=NORTH), (1, 5))
        self.assertEqual(moved((0, 0), 3, move=(3, 4, 5)), (3, 4))
        self.assertEqual(moved((0, 0), 3, along=(3, 4, 5)), (5, 0))
        self.assertEqual(moved((0, 0), 3, along=(-3, 4, 5)), (-5, 0))
        self.assertEqual(moved((0, 0), 1, move=(3, 4, 5), along=(4, 3, 5)), ((5, 8), (5, 6)))
        self.assertEqual(moved((7, (1, 2)), 0, move=(3, 4, 5), along=EAST), (7, (1, 2)))
        self.assertEqual(moved(along=NORTH, move=(3, 4, 5), by=(1, 2), place=(0, 0)), ((3, 8), (1, 2)))

    def test_east_where_nothing_is_told(self):
        self.assertEqual(moved((0, 0), 3, move=(3, 4, 5)), moved((0, 0), 3, move=(3, 4, 5), along=EAST))
        self.assertEqual(moved((0, 0), 3, along=(3, 4, 5)), moved((0, 0), 3, move=EAST, along=(3, 4, 5)))

    def test_ways_are_told_by_their_names_alone(self):
        self.assertRaises(TypeError, slide, (0, 0), 1, EAST)
        self.assertRaises(TypeError, moved, (0, 0), 1, EAST, EAST)


class Refused(unittest.TestCase, Looks):
    def test_refused_is_what_is_no_place(self):
        for thing in no_places():
            for act in (slide, moved):
                self.refused(NoPlace, thing, act, thing, 1)
                self.refused(NoPlace, thing, act, place=thing, by=None)
            self.refused(NoPlace, thing, slide, thing, "1", way=None)
            self.refused(NoPlace, thing, moved, thing, "1", move=None, along=None)
            self.refused(NoPlace, thing, moved, thing, 1, move=EAST, along=NORTH)

    def test_then_what_is_no_number(self):
        for thing in no_numbers():
            for act in (slide, moved):
                self.refused(NoNumber, thing, act, (0, 0), thing)
                self.refused(NoNumber, thing, act, by=thing, place=(0, 0))
            self.refused(NoNumber, thing, slide, (0, 0), thing, way=None)
            self.refused(NoNumber, thing, moved, (0, 0), thing, along=None, move=None)
            self.refused(NoNumber, thing, moved, (0, 0), thing, move=EAST, along=NORTH)

    def test_then_what_is_no_way(self):
        for thing in no_ways():
            self.refused(NoWay, thing, slide, (0, 0), 1, way=thing)
            self.refused(NoWay, thing, moved, (0, 0), 1, move=thing)
            self.refused(NoWay, thing, moved, (0, 0), 1, along=thing)
            self.refused(NoWay, thing, moved, (0, 0), 0, along=[1], move=thing)

    def test_the_move_ahead_of_along(self):
        move, along = [1, 0, 1], [1, 0, 1]
        self.refused(NoWay, move, moved, (0, 0), 1, along=along, move=move)
        self.refused(NoWay, True, moved, (0, 0), 1, along=False, move=True)

    def test_then_ways_that_are_square(self):
        for move in WAYS:
            for along in WAYS:
                if move[0] * along[0] + move[1] * along[1] == 0:
                    for by in BYS:
                        self.refused_both(move, along, moved, (1, 2), by, move=move, along=along)
        self.refused_both(EAST, NORTH, moved, (0, 0), 0, along=NORTH)
        self.refused_both(NORTH, EAST, moved, (0, 0), 0, move=NORTH)
        self.refused_both((3, 4, 5), (-4, 3, 5), moved, (0, 0), 1, move=(3, 4, 5), along=(-4, 3, 5))

    def test_what_is_handed_in_is_not_changed(self):
        for thing in no_places() + no_ways():
            before = repr(thing)
            is_way(thing)
            self.assertRaises(NoWay, way_of, thing, thing)
            self.assertRaises(NoWay, slide, (0, 0), 1, way=[thing])
            self.assertRaises(NoPlace, slide, [thing], 1)
            self.assertEqual(repr(thing), before)


class Fractional(unittest.TestCase, Looks):
    def test_measures_of_parts_are_told_in_lowest_terms(self):
        self.same_number(measure(((5, 2), (5, 4)), (3, 4, 5)), Fraction(5, 2))
        self.same_number(measure(((5, 3), (5, 4)), (3, 4, 5)), 2)


if __name__ == "__main__":
    unittest.main()
