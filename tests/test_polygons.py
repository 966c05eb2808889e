"""Polygons of rounds: point 23."""

import random
import unittest
from fractions import Fraction

from hintedpoints.errors import NoLimit
from hintedpoints.outlines import Outline, polygons
from tests.helpers import Looks, exact, no_numbers, number


def wanted(points, cuts):
    """The polygon of a round of tuples (x, y, on), as Fractions: told by going around once from a start."""
    many = len(points)
    full = []
    for at in range(many):
        x, y, on = points[at]
        full.append((Fraction(x), Fraction(y), on))
        next_x, next_y, next_on = points[(at + 1) % many]
        if not on and not next_on:
            full.append((Fraction(x + next_x) / 2, Fraction(y + next_y) / 2, True))
    start = 0 if full[0][2] else len(full) - 1
    told = []
    for step in range(len(full)):
        x, y, on = full[(start + step) % len(full)]
        if on:
            told.append((x, y))
            continue
        one, two = full[(start + step - 1) % len(full)], full[(start + step + 1) % len(full)]
        for cut in range(1, cuts):
            s = Fraction(cut, cuts)
            told.append(tuple((1 - s) ** 2 * one[axis] + 2 * s * (1 - s) * (x, y)[axis] + s * s * two[axis]
                              for axis in (0, 1)))
    return told


def asked(outline, **names):
    """What is told of an outline."""
    return polygons(outline.places(), outline.ends(), outline.truths(), **names)


class Polygons(unittest.TestCase, Looks):
    def same_polygons(self, told, rounds):
        self.assertIs(type(told), list)
        self.assertEqual(len(told), len(rounds))
        for polygon, places in zip(told, rounds):
            self.assertIs(type(polygon), list)
            self.assertEqual(len(polygon), len(places))
            for place, (x, y) in zip(polygon, places):
                self.assertIs(type(place), tuple)
                self.same_number(place[0], x)
                self.same_number(place[1], y)

    def test_all_on(self):
        outline = Outline([[(0, 0, True), (4, 0, True), (0, 4, True)], [(9, 9, True), (8, 8, True), (7, 9, True)]])
        for cuts in (1, 2, 3, 4):
            self.assertEqual(asked(outline, cuts=cuts), [[(0, 0), (4, 0), (0, 4)], [(9, 9), (8, 8), (7, 9)]])

    def test_one_off(self):
        outline = Outline([[(0, 0, True), (4, 0, False), (4, 4, True)]])
        self.assertEqual(asked(outline, cuts=1), [[(0, 0), (4, 4)]])
        self.assertEqual(asked(outline, cuts=2), [[(0, 0), (3, 1), (4, 4)]])
        self.assertEqual(asked(outline), [[(0, 0), (3, 1), (4, 4)]])
        self.assertEqual(asked(outline, cuts=4), [[(0, 0), ((7, 4), (1, 4)), (3, 1), ((15, 4), (9, 4)), (4, 4)]])
        self.assertEqual(asked(outline, cuts=3), [[(0, 0), ((20, 9), (4, 9)), ((32, 9), (16, 9)), (4, 4)]])

    def test_the_first_off(self):
        outline = Outline([[(4, 0, False), (4, 4, True), (0, 0, True)]])
        self.assertEqual(asked(outline), [[(0, 0), (3, 1), (4, 4)]])
        self.assertEqual(asked(outline, cuts=1), [[(0, 0), (4, 4)]])

    def test_the_last_off(self):
        outline = Outline([[(0, 0, True), (4, 4, True), (4, 0, False)]])
        self.assertEqual(asked(outline), [[(0, 0), (4, 4), (3, 1)]])

    def test_two_off_have_a_point_amid_them(self):
        outline = Outline([[(0, 0, True), (8, 0, False), (8, 8, False), (0, 8, True)]])
        self.assertEqual(asked(outline, cuts=1), [[(0, 0), (8, 4), (0, 8)]])
        self.assertEqual(asked(outline), [[(0, 0), (6, 1), (8, 4), (6, 7), (0, 8)]])

    def test_all_off(self):
        outline = Outline([[(0, 0, False), (8, 0, False), (8, 9, False), (0, 8, False)]])
        # The first point lies behind the one that is understood amid the last one and itself.
        self.assertEqual(asked(outline, cuts=1), [[(0, 4), (4, 0), (8, (9, 2)), (4, (17, 2))]])
        self.assertEqual(asked(outline)[0][:4], [(0, 4), (1, 1), (4, 0), (7, (9, 8))])

    def test_the_first_and_the_last_off(self):
        outline = Outline([[(0, 0, False), (8, 0, True), (0, 8, False)]])
        self.assertEqual(asked(outline, cuts=1), [[(0, 4), (8, 0)]])
        self.assertEqual(asked(outline), [[(0, 4), (2, 1), (8, 0), (2, 5)]])

    def test_rounds_of_all_kinds(self):
        chance = random.Random(23)
        for _ in range(300):
            rounds = [[(chance.randint(-9, 9), chance.randint(-99, 99), chance.random() < 0.5)
                       for _ in range(chance.randint(3, 12))] for _ in range(chance.randint(1, 4))]
            outline = Outline(rounds)
            for cuts in (1, 2, 3, 4):
                self.same_polygons(asked(outline, cuts=cuts), [wanted(points, cuts) for points in rounds])
            self.assertEqual(asked(outline), asked(outline, cuts=2))

    def test_places_may_be_parts_as_those_of_a_shape(self):
        chance = random.Random(24)
        for _ in range(100):
            places = [(number(Fraction(chance.randint(-99, 99), chance.randint(1, 7))),
                       number(Fraction(chance.randint(-99, 99), chance.randint(1, 7)))) for _ in range(9)]
            truths = [chance.random() < 0.4 for _ in range(9)]
            points = [(exact(x), exact(y), on) for (x, y), on in zip(places, truths)]
            told = polygons(places=tuple(places), truths=tuple(truths), ends=(3, 8), cuts=3)
            self.same_polygons(told, [wanted(points[:4], 3), wanted(points[4:], 3)])

    def test_at_most_so_many_places(self):
        outline = Outline([[(at, at * at, False) for at in range(12)]] * 4)
        self.assertEqual([len(polygon) for polygon in asked(outline, cuts=4)], [48] * 4)

    def test_lists_told_are_new_ones(self):
        outline = Outline([[(0, 0, True), (4, 0, True), (0, 4, True)]])
        places, ends, truths = outline.places(), outline.ends(), outline.truths()
        told = polygons(places, ends, truths)
        told[0].clear()
        told.clear()
        self.assertEqual((places, ends, truths), (outline.places(), outline.ends(), outline.truths()))
        self.assertEqual(polygons(places, ends, truths), [[(0, 0), (4, 0), (0, 4)]])

    def test_refused_is_what_is_no_number_of_cuts(self):
        outline = Outline([[(0, 0, True), (4, 0, False), (0, 4, True)]])
        for thing in no_numbers() + [0, -1, 5, 100, (1, 2), (3, 2), 10 ** 59]:
            self.refused(NoLimit, thing, asked, outline, cuts=thing)


if __name__ == "__main__":
    unittest.main()
