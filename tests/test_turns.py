"""Which way polygons turn, and what crosses: points 24 to 26."""

import random
import unittest
from fractions import Fraction

from hintedpoints.errors import NoParts, NoPlace
from hintedpoints.turns import first_crossing, judged, turns
from tests.helpers import LONG_PART, MOST, Looks, exact, no_things, number

LEFT = [(0, 0), (8, 0), (8, 8), (0, 8)]
RIGHT = LEFT[::-1]
FLAT = [(0, 0), (8, 0), (4, 0)]
BOW = [(0, 0), (8, 8), (8, 0), (0, 8)]
FAR = [(x + 100, y) for x, y in LEFT]


def no_parts():
    """Things that are no polygons, the whole."""
    return no_things() + [0, 1, (1, 2), "0 0", [LEFT] * 5, (LEFT,) * 5, {0: LEFT}, [], ()]


def no_polygons():
    """Things that are no polygon, the whole."""
    return [None, True, 0, 1, "", "0 0", {}, {0: (0, 0)}, [], (), [(0, 0)] * 101, ((0, 0),) * 101, [None] * 101]


def no_places():
    """Things that are no places."""
    return no_things() + [0, "0 0", (0,), (0, 0, 0), [0, 0], (0, True), (False, 0), (0, None), ("0", 0), (0, (2, 4)),
                          ((1, 1), 0), ([1], 0), {0: 0, 1: 0}]


def sign(value):
    return (value > 0) - (value < 0)


def side(one, two, place):
    """On which side of the line through two places a third one lies."""
    return sign((two[0] - one[0]) * (place[1] - one[1]) - (two[1] - one[1]) * (place[0] - one[0]))


def on_edge(place, one, two):
    """Does a place lie on an edge?"""
    return side(one, two, place) == 0 and all(
        min(one[axis], two[axis]) <= place[axis] <= max(one[axis], two[axis]) for axis in (0, 1))


def in_common(one, other):
    """What two edges have in common: `none`, a place, or `more`."""
    ends = {place for place in one if on_edge(place, *other)} | {place for place in other if on_edge(place, *one)}
    if len(ends) > 1:
        return "more"
    if ends:
        return ends.pop()
    sides = side(*one, other[0]) * side(*one, other[1]), side(*other, one[0]) * side(*other, one[1])
    return "inside" if sides == (-1, -1) else "none"


def wanted_crossing(parts):
    """The first two edges that have too much in common, by looking at all pairs."""
    edges = []
    for at, polygon in enumerate(parts):
        places = [(exact(x), exact(y)) for x, y in polygon]
        kept = [(at, edge, (place, places[(edge + 1) % len(places)])) for edge, place in enumerate(places)
                if place != places[(edge + 1) % len(places)]]
        for order, (_, edge, ends) in enumerate(kept):
            edges.append(((at, edge), ends, (at, kept[(order + 1) % len(kept)][1])))
    found = []
    for at, (name, ends, follower) in enumerate(edges):
        for other_name, other_ends, other_follower in edges[at + 1:]:
            common = in_common(ends, other_ends)
            allowed = ["none"]
            if follower == other_name:
                allowed.append(ends[1])
            if other_follower == name:
                allowed.append(other_ends[1])
            if common not in allowed:
                found.append((name, other_name))
    return min(found) if found else None


class Turns(unittest.TestCase, Looks):
    def test_to_the_left_to_the_right_and_neither(self):
        self.assertEqual(turns([LEFT]), [1])
        self.assertEqual(turns([RIGHT]), [-1])
        self.assertEqual(turns([FLAT]), [0])
        self.assertEqual(turns([BOW]), [0])
        self.assertEqual(turns((tuple(LEFT), RIGHT, BOW, LEFT[1:])), [1, -1, 0, 1])
        self.assertEqual(turns(parts=[LEFT]), [1])

    def test_of_one_place_two_and_a_hundred(self):
        self.assertEqual(turns([[(5, 7)]]), [0])
        self.assertEqual(turns([[(5, 7), (8, 9)]]), [0])
        hill = [(at, at * at) for at in range(100)]
        self.assertEqual(turns([hill, hill[::-1], [(3, 3)] * 100]), [1, -1, 0])

    def test_numbers_are_whole_ones(self):
        for told in turns([LEFT, RIGHT, FLAT]):
            self.assertIs(type(told), int)

    def test_of_parts_and_of_sixty_figures(self):
        thin = [(0, 0), ((1, 3), (1, 3)), ((2, 3), (MOST - 1, MOST))]
        self.assertEqual(turns([thin, thin[::-1]]), [1, -1])
        long = [(MOST, -MOST), (LONG_PART, (-1, MOST)), ((1, MOST), MOST)]
        total = sum(exact(x) * exact(long[(at + 1) % 3][1]) - exact(long[(at + 1) % 3][0]) * exact(y)
                    for at, (x, y) in enumerate(long))
        self.assertEqual(turns([long]), [sign(total)])

    def test_refused(self):
        for act in (turns, first_crossing):
            for thing in no_parts():
                if not (isinstance(thing, (list, tuple)) and 1 <= len(thing) <= 4):
                    self.refused(NoParts, thing, act, thing)
                    self.refused(NoParts, thing, act, parts=thing)
            for thing in no_polygons():
                self.refused(NoParts, thing, act, [thing])
                self.refused(NoParts, thing, act, (LEFT, thing, None))
            for thing in no_places():
                self.refused(NoPlace, thing, act, [[thing]])
                self.refused(NoPlace, thing, act, [LEFT, tuple(LEFT + [thing, None])])

    def test_refused_polygon_by_polygon(self):
        for act in (turns, first_crossing):
            bad, none = (0, True), []
            self.refused(NoPlace, bad, act, [[bad], none])
            self.refused(NoParts, none, act, [none, [bad]])
            many = [[bad]] * 5
            self.refused(NoParts, many, act, many)
            long = [bad] * 101
            self.refused(NoParts, long, act, [long, [bad]])


class Crossings(unittest.TestCase, Looks):
    def test_what_does_not_cross(self):
        for parts in ([LEFT], [RIGHT], [LEFT, FAR], [[(2, 2)]], [[(2, 2)] * 5, LEFT], [LEFT, [(2, 2), (3, 2), (2, 3)]],
                      [[(0, 0), (0, 0), (8, 0), (8, 0), (8, 8), (0, 0)]], [LEFT, [(4, 4)] * 3]):
            self.assertIsNone(first_crossing(parts))

    def test_edges_that_cross(self):
        self.assertEqual(first_crossing([BOW]), ((0, 0), (0, 2)))
        self.assertEqual(first_crossing([FAR, tuple(BOW)]), ((1, 0), (1, 2)))
        self.assertEqual(first_crossing(([(4, 4), (12, 4), (12, 12)], LEFT)), ((0, 0), (1, 1)))
        self.assertEqual(first_crossing(parts=[LEFT, FAR, BOW]), ((0, 0), (2, 0)))

    def test_a_place_within_an_edge_that_is_touched(self):
        # The place at (4, 0) lies on the first edge.
        self.assertEqual(first_crossing([[(0, 0), (8, 0), (8, 8), (4, 0), (0, 8)]]), ((0, 0), (0, 2)))
        self.assertEqual(first_crossing([LEFT, [(4, 8), (5, 9), (3, 9)]]), ((0, 2), (1, 0)))

    def test_ends_that_are_touched(self):
        self.assertEqual(first_crossing([LEFT, [(8, 8), (9, 8), (9, 9)]]), ((0, 1), (1, 0)))
        # The round comes to the same place twice.
        self.assertEqual(first_crossing([[(0, 0), (4, 0), (4, 4), (0, 0), (-4, 0), (-4, -4)]]), ((0, 0), (0, 2)))

    def test_edges_that_fold_back(self):
        self.assertEqual(first_crossing([FLAT]), ((0, 0), (0, 1)))
        self.assertEqual(first_crossing([[(0, 0), (8, 0)]]), ((0, 0), (0, 1)))
        self.assertEqual(first_crossing([[(0, 0), (8, 0), (8, 8), (8, 4)]]), ((0, 1), (0, 2)))
        self.assertEqual(first_crossing([[(4, 0), (8, 0), (8, 8), (0, 0), (6, 0)]]), ((0, 0), (0, 3)))
        # The last edge folds back over the first one.
        self.assertEqual(first_crossing([[(0, 0), (8, 0), (8, 8), (4, 0)]]), ((0, 0), (0, 2)))
        self.assertEqual(first_crossing([[(0, 0), (8, 0), (4, 8), (16, 8), (16, 0)]]), ((0, 0), (0, 4)))

    def test_edges_that_lie_over_one_another(self):
        self.assertEqual(first_crossing([LEFT, LEFT]), ((0, 0), (1, 0)))
        self.assertEqual(first_crossing([LEFT, [(2, 0), (6, 0), (4, -3)]]), ((0, 0), (1, 0)))
        self.assertIsNone(first_crossing([LEFT, [(9, 0), (12, 0), (10, 5)]]))
        self.assertEqual(first_crossing([LEFT, [(8, 0), (12, 0), (10, 5)]]), ((0, 0), (1, 0)))
        self.assertIsNone(first_crossing([LEFT, [(9, 0), (12, 0), (10, -5)]]))

    def test_edges_in_one_line_that_are_apart(self):
        for begin in range(-20, 20):
            low, high, far, further = [number(Fraction(begin + step, 100)) for step in (0, 1, 7, 9)]
            one = [(low, 0), (high, 0), (low, (1, 50))]
            other = [(far, 0), (further, 0), (far, (1, 50))]
            for parts in ([one, other], [other, one]):
                self.assertIsNone(first_crossing(parts))
                self.assertIsNone(first_crossing([[(y, x) for x, y in polygon] for polygon in parts]))

    def test_straight_on_is_no_fold(self):
        self.assertIsNone(first_crossing([[(0, 0), (4, 0), (8, 0), (8, 8), (4, 8), (0, 8)]]))

    def test_edges_that_are_let_out(self):
        # Between the edges 0 and 3 stand none but such as are let out: they follow one another.
        square = [(0, 0), (8, 0), (8, 0), (8, 0), (8, 8), (0, 8), (0, 0)]
        self.assertIsNone(first_crossing([square]))
        folded = [(0, 0), (8, 0), (8, 0), (8, 0), (4, 0), (4, 8)]
        self.assertEqual(first_crossing([folded]), ((0, 0), (0, 3)))
        # An edge that was let out touches nothing.
        self.assertIsNone(first_crossing([LEFT, [(8, 8)] * 100]))
        self.assertIsNone(first_crossing([[(1, 1), (1, 1)], [(1, 1)]]))

    def test_the_first_and_the_last_edge_follow_one_another(self):
        self.assertIsNone(first_crossing([[(0, 0), (4, 1), (8, 0), (4, 8)]]))
        self.assertIsNone(first_crossing([[(0, 0), (4, 1), (8, 0), (4, 8), (0, 0), (0, 0)]]))
        self.assertEqual(first_crossing([[(0, 0), (8, 0), (4, 8), (4, 0)]]), ((0, 0), (0, 2)))

    def test_the_least_first_and_the_least_second(self):
        star = [(0, 0), (8, 6), (0, 6), (8, 0), (4, 10)]
        self.assertEqual(first_crossing([star]), wanted_crossing([star]))
        self.assertEqual(first_crossing([FAR, star, BOW])[0][0], 1)

    def test_like_a_look_at_all_pairs(self):
        chance = random.Random(25)
        none = some = 0
        for _ in range(1500):
            span = chance.choice([2, 3, 5, 9, 40])
            parts = [[(chance.randint(0, span), chance.randint(0, span)) for _ in range(chance.randint(1, 6))]
                     for _ in range(chance.randint(1, 3))]
            told = first_crossing(parts)
            self.assertEqual(told, wanted_crossing(parts), parts)
            # Likewise within a part of one cell.
            small = [[(number(Fraction(x, 1000)), number(Fraction(y - 7, 1000))) for x, y in polygon]
                     for polygon in parts]
            self.assertEqual(first_crossing(small), told, parts)
            none += told is None
            some += told is not None
        self.assertGreater(min(none, some), 100)

    def test_of_parts(self):
        chance = random.Random(26)
        for _ in range(500):
            parts = [[(number(Fraction(chance.randint(-9, 9), chance.randint(1, 4))),
                       number(Fraction(chance.randint(-9, 9), chance.randint(1, 4))))
                      for _ in range(chance.randint(2, 5))] for _ in range(chance.randint(1, 2))]
            self.assertEqual(first_crossing(parts), wanted_crossing(parts), parts)

    def test_exactly_at_a_place_and_just_beside_it(self):
        touch = [(8, (1, 3)), (12, 0), (12, 1)]
        self.assertEqual(first_crossing([LEFT, touch]), ((0, 1), (1, 0)))
        beside = [((8 * MOST + 1, MOST), (1, 3)), (12, 0), (12, 1)]
        self.assertIsNone(first_crossing([LEFT, beside]))
        within = [((8 * MOST - 1, MOST), (1, 3)), (12, 0), (12, 1)]
        self.assertEqual(first_crossing([LEFT, within]), ((0, 1), (1, 0)))

    def test_four_hundred_edges(self):
        hill = [(at * 10, at * at) for at in range(100)]
        parts = [[(x + step * 10 ** 6, y) for x, y in hill] for step in range(4)]
        self.assertIsNone(first_crossing(parts))
        parts[3][99] = (0, 5)
        self.assertEqual(first_crossing(parts)[0][0], 0)

    def test_numbers_told_are_whole_ones(self):
        for place in first_crossing([LEFT, BOW]):
            self.assertIs(type(place), tuple)
            for told in place:
                self.assertIs(type(told), int)

    def test_what_is_handed_in_is_not_changed(self):
        parts = [list(LEFT), list(BOW)]
        first_crossing(parts)
        turns(parts)
        judged(parts, parts)
        self.assertEqual(parts, [LEFT, BOW])


class Judged(unittest.TestCase, Looks):
    def test_kept(self):
        self.assertEqual(judged([LEFT], [FAR]), ("kept",))
        self.assertEqual(judged(before=[BOW, RIGHT], after=([(0, 0)] * 2, RIGHT))[0], "turned")
        self.assertEqual(judged(after=[RIGHT], before=[RIGHT[1:]]), ("kept",))
        self.assertEqual(judged([LEFT, LEFT], [LEFT, FAR]), ("kept",))

    def test_turned(self):
        self.assertEqual(judged([LEFT], [RIGHT]), ("turned", 0))
        self.assertEqual(judged([LEFT, RIGHT], [LEFT, [(x + 9, y) for x, y in LEFT]]), ("turned", 1))
        self.assertEqual(judged([LEFT, LEFT, RIGHT], [FAR, RIGHT, LEFT]), ("turned", 1))
        # What doesn't turn at all is told also where it didn't turn ahead.
        self.assertEqual(judged([FLAT], [FLAT]), ("turned", 0))
        self.assertEqual(judged([LEFT], [FLAT]), ("turned", 0))
        self.assertEqual(judged([FLAT], [LEFT]), ("turned", 0))

    def test_crossed(self):
        knot = [(0, 0), (8, 0), (8, 8), (3, -1)]
        self.assertEqual(turns([knot]), [1])
        self.assertEqual(judged([LEFT], [knot]), ("crossed", (0, 0), (0, 2)))
        self.assertEqual(judged([LEFT, LEFT], [FAR, FAR]), ("crossed", (0, 0), (1, 0)))
        # Crossings ahead are nothing.
        self.assertEqual(judged([knot, knot], [LEFT, FAR]), ("kept",))
        # A turn goes ahead of a crossing.
        self.assertEqual(judged([LEFT, RIGHT], [knot, LEFT]), ("turned", 1))

    def test_refused_first_what_is_ahead(self):
        for thing in no_polygons():
            self.refused(NoParts, thing, judged, [thing], None)
            self.refused(NoParts, thing, judged, [LEFT, thing], [[]])
            self.refused(NoParts, thing, judged, [LEFT], (LEFT, thing))
        for thing in no_places():
            self.refused(NoPlace, thing, judged, [LEFT, [thing]], after=[[]])
            self.refused(NoPlace, thing, judged, [LEFT], [RIGHT, [thing]])
        for thing in no_parts():
            if not (isinstance(thing, (list, tuple)) and 1 <= len(thing) <= 4):
                self.refused(NoParts, thing, judged, thing, thing)
                self.refused(NoParts, thing, judged, [LEFT], thing)
                self.refused(NoParts, thing, judged, after=None, before=thing)

    def test_then_another_number_of_polygons(self):
        for before, after in (([LEFT], [RIGHT, LEFT]), ([LEFT, LEFT, LEFT], [LEFT]), ((LEFT,), (BOW,) * 4)):
            self.refused(NoParts, after, judged, before, after)


if __name__ == "__main__":
    unittest.main()
