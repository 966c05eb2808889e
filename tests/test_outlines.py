"""Outlines: points 21 and 22."""

import unittest

from hintedpoints.errors import NoNumber, NoOutline, NoPoint, TooMany
from hintedpoints.outlines import Outline, joined
from tests.helpers import MOST, Looks, no_numbers, no_things

TRIANGLE = [(0, 0, True), (64, 0, False), (64, 64, True)]
SMALL = [(9, 9, True), (20, 9, True), (9, 20, True)]
FAR = [(-99999, 99999, False), (99999, -99999, True), (0, 0, False)]


def dozen():
    """A round of twelve points."""
    return [(at, at * at, at % 2 == 0) for at in range(12)]


def no_rounds():
    """Things that are no rounds of an outline for what they are, or for what they hold."""
    return no_things() + [0, 1, (1, 2), "0 0", [TRIANGLE] * 5, (TRIANGLE,) * 5, Outline([TRIANGLE]), {0: TRIANGLE}]


def no_round_points():
    """Things that are no round for what they are."""
    return [None, True, 0, "abc", "", {}, {1: 2, 3: 4, 5: 6}, [], (), TRIANGLE[:2], tuple(TRIANGLE[:1]),
            dozen() + [(0, 0, True)], tuple(dozen() + [(0, 0, True)]), Outline([TRIANGLE])]


def no_points():
    """Things that are no points of an outline."""
    return no_things() + [0, 1, "0 0", (0, 0), (0, 0, 1), (0, 0, 0), (0, 0, None), (0, 0, "off"), (0, 0, True, True),
                          [0, 0, True], (True, 0, True), (0, False, True), ((1, 2), 0, True), (0, (3, 2), True),
                          ("0", 0, True), (0, None, True), (100000, 0, True), (-100000, 0, True), (0, 100000, True),
                          (0, -100000, False), (MOST, 0, True), ([0], 0, True), {0: 0, 1: 0, True: True}]


class Made(unittest.TestCase, Looks):
    def test_it_tells_its_rounds_points_places_truths_and_ends(self):
        outline = Outline([TRIANGLE, SMALL])
        self.assertEqual(outline.rounds(), [TRIANGLE, SMALL])
        self.assertEqual(outline.points(), TRIANGLE + SMALL)
        self.assertEqual(outline.places(), [(0, 0), (64, 0), (64, 64), (9, 9), (20, 9), (9, 20)])
        self.assertEqual(outline.truths(), [True, False, True, True, True, True])
        self.assertEqual(outline.ends(), [2, 5])
        self.assertEqual(len(outline), 6)
        for told in (outline.rounds(), outline.rounds()[0], outline.points(), outline.places(), outline.truths(),
                     outline.ends()):
            self.assertIs(type(told), list)
        for told in outline.points() + outline.places() + outline.rounds()[1]:
            self.assertIs(type(told), tuple)
        for on in outline.truths():
            self.assertIs(type(on), bool)

    def test_one_and_four_rounds_of_three_and_twelve_points(self):
        for rounds in ([TRIANGLE], [dozen()], [TRIANGLE] * 4, [dozen()] * 4, [FAR], [dozen(), TRIANGLE, FAR],
                       [SMALL, SMALL]):
            outline = Outline(rounds)
            self.assertEqual(outline.rounds(), rounds)
            self.assertEqual(len(outline), sum(len(points) for points in rounds))
            self.assertEqual(outline.ends()[-1], len(outline) - 1)
            self.assertEqual(len(outline.ends()), len(rounds))
        self.assertEqual(Outline([dozen(), TRIANGLE, FAR]).ends(), [11, 14, 17])

    def test_lists_may_be_tuples(self):
        for rounds in (tuple([TRIANGLE, SMALL]), [tuple(TRIANGLE), SMALL], (tuple(TRIANGLE), tuple(SMALL))):
            self.assertEqual(Outline(rounds), Outline([TRIANGLE, SMALL]))
            self.assertEqual(Outline(rounds=rounds).rounds(), [TRIANGLE, SMALL])

    def test_lists_told_are_new_ones(self):
        rounds = [list(TRIANGLE), list(SMALL)]
        outline = Outline(rounds)
        rounds[0].pop()
        rounds.pop()
        outline.rounds().append(1)
        outline.rounds()[0].append(1)
        outline.points().clear()
        outline.places().clear()
        outline.truths().clear()
        outline.ends().clear()
        self.assertEqual(outline.rounds(), [TRIANGLE, SMALL])
        self.assertEqual(outline.points(), TRIANGLE + SMALL)
        self.assertEqual(len(outline), 6)
        self.assertEqual(outline.ends(), [2, 5])
        self.assertEqual(len(outline.places()), 6)
        self.assertEqual(len(outline.truths()), 6)

    def test_what_is_handed_in_is_not_changed(self):
        rounds = [list(TRIANGLE), list(SMALL)]
        Outline(rounds).moved(east=3)
        self.assertEqual(rounds, [TRIANGLE, SMALL])


class Refused(unittest.TestCase, Looks):
    def test_the_whole_thing(self):
        for thing in no_things() + [0, (1, 2), "0 0", Outline([TRIANGLE]), {0: TRIANGLE}, [], (), [TRIANGLE] * 5,
                                    (TRIANGLE,) * 5, [None] * 5]:
            if not (isinstance(thing, (list, tuple)) and 1 <= len(thing) <= 4):
                self.refused(NoOutline, thing, Outline, thing)
                self.refused(NoOutline, thing, Outline, rounds=thing)

    def test_a_round(self):
        for thing in no_round_points():
            for rounds in ([thing], (thing,), [TRIANGLE, thing], [TRIANGLE, thing, None], [thing, [None] * 3]):
                self.refused(NoOutline, thing, Outline, rounds)

    def test_a_point(self):
        for thing in no_points():
            for points in ([thing, TRIANGLE[0], TRIANGLE[1]], (TRIANGLE[0], thing, 5), TRIANGLE + [thing]):
                self.refused(NoPoint, thing, Outline, [points])
                self.refused(NoPoint, thing, Outline, (TRIANGLE, points, None))

    def test_round_by_round(self):
        bad = (0, 0, 0)
        short = TRIANGLE[:2]
        self.refused(NoPoint, bad, Outline, [TRIANGLE + [bad], short])
        self.refused(NoOutline, short, Outline, [short, TRIANGLE + [bad]])
        self.refused(NoOutline, short, Outline, [TRIANGLE, short, TRIANGLE + [bad]])
        many = [[bad] * 3] * 5
        self.refused(NoOutline, many, Outline, many)
        long = [bad] * 13
        self.refused(NoOutline, long, Outline, [long])

    def test_bounds_are_counted(self):
        for x in (-99999, 99999):
            for y in (-99999, 99999):
                self.assertEqual(Outline([TRIANGLE + [(x, y, True)]]).places()[-1], (x, y))
        for x, y in ((100000, 0), (0, 100000), (-100000, 0), (0, -100000)):
            point = (x, y, True)
            self.refused(NoPoint, point, Outline, [TRIANGLE + [point]])


class Equal(unittest.TestCase):
    def test_equal_is_what_has_the_same_rounds(self):
        self.assertTrue(Outline([TRIANGLE, SMALL]) == Outline((tuple(TRIANGLE), SMALL)))
        self.assertFalse(Outline([TRIANGLE, SMALL]) != Outline([TRIANGLE, SMALL]))

    def test_other_ones_are_not(self):
        outlines = [Outline(rounds) for rounds in (
            [TRIANGLE], [SMALL], [TRIANGLE, SMALL], [SMALL, TRIANGLE], [TRIANGLE + SMALL],
            [[(0, 0, True), (64, 0, True), (64, 64, True)]], [TRIANGLE[1:] + TRIANGLE[:1]], [TRIANGLE, TRIANGLE])]
        for at, one in enumerate(outlines):
            for other_at, other in enumerate(outlines):
                self.assertIs(one == other, at == other_at)
                self.assertIs(one != other, at != other_at)

    def test_nothing_else_is(self):
        outline = Outline([TRIANGLE])
        for thing in no_rounds() + [[TRIANGLE], (TRIANGLE,), str(outline), repr(outline), outline.points(), 3]:
            if not isinstance(thing, Outline):
                self.assertIs(outline == thing, False)
                self.assertIs(outline != thing, True)
                self.assertIs(thing == outline, False)


class Texts(unittest.TestCase):
    def test_the_text(self):
        self.assertEqual(str(Outline([TRIANGLE, SMALL])), "0 0, 64 0 off, 64 64 | 9 9, 20 9, 9 20")
        self.assertEqual(str(Outline([FAR])), "-99999 99999 off, 99999 -99999, 0 0 off")
        self.assertEqual(str(Outline((tuple(SMALL),))), "9 9, 20 9, 9 20")

    def test_the_repr(self):
        for rounds in ([TRIANGLE], [TRIANGLE, SMALL, FAR]):
            outline = Outline(tuple(tuple(points) for points in rounds))
            self.assertEqual(repr(outline), "Outline(" + repr(rounds) + ")")
            self.assertEqual(eval(repr(outline)), outline)


class Moved(unittest.TestCase, Looks):
    def test_it_tells_an_outline_that_lies_further(self):
        outline = Outline([TRIANGLE, SMALL])
        told = outline.moved(east=5, north=-7)
        self.assertIs(type(told), Outline)
        self.assertEqual(told.rounds(), [[(5, -7, True), (69, -7, False), (69, 57, True)],
                                         [(14, 2, True), (25, 2, True), (14, 13, True)]])
        self.assertEqual(outline.rounds(), [TRIANGLE, SMALL])
        self.assertEqual(outline.moved(north=3), Outline([[(x, y + 3, on) for x, y, on in points]
                                                          for points in outline.rounds()]))
        self.assertEqual(outline.moved(east=3).places()[0], (3, 0))
        self.assertEqual(outline.moved(), outline)

    def test_to_the_bounds(self):
        outline = Outline([SMALL])
        self.assertEqual(outline.moved(east=99979).places(), [(99988, 9), (99999, 9), (99988, 20)])
        self.refused_at(NoPoint, {"found": (100000, 9, True)}, outline.moved, east=99980)
        self.refused_at(NoPoint, {"found": (9 + MOST, 9 - MOST, True)}, outline.moved, east=MOST, north=-MOST)
        self.refused_at(NoPoint, {"found": (9, 100000, True)}, outline.moved, north=99980)
        both = Outline([TRIANGLE, FAR])
        self.refused_at(NoPoint, {"found": (-100000, 99999, False)}, both.moved, east=-1)
        self.refused_at(NoPoint, {"found": (100000, -99999, True)}, both.moved, east=1)

    def test_refused_is_what_is_no_whole_number(self):
        outline = Outline([FAR])
        for thing in no_numbers() + [(1, 2), (-3, 2)]:
            self.refused(NoNumber, thing, outline.moved, east=thing)
            self.refused(NoNumber, thing, outline.moved, north=thing)
            self.refused(NoNumber, thing, outline.moved, north=[1], east=thing)
            self.refused(NoNumber, thing, outline.moved, north=thing, east=1)
        self.assertRaises(TypeError, outline.moved, 1)


class Joined(unittest.TestCase, Looks):
    def test_all_rounds_in_order(self):
        one, two = Outline([TRIANGLE]), Outline([SMALL, FAR])
        self.assertEqual(joined([one, two]), Outline([TRIANGLE, SMALL, FAR]))
        self.assertEqual(joined((two, one)), Outline([SMALL, FAR, TRIANGLE]))
        self.assertEqual(joined(outlines=[two, two]), Outline([SMALL, FAR, SMALL, FAR]))
        self.assertEqual(joined([one] * 4), Outline([TRIANGLE] * 4))
        self.assertEqual(joined([one]), one)

    def test_refused_is_what_is_no_such_list(self):
        one = Outline([TRIANGLE])
        for thing in no_rounds() + [[one] * 5, one, [one, None], [one, [TRIANGLE]], (None, one), [one, one, one, 1]]:
            self.refused(NoOutline, thing, joined, thing)

    def test_then_too_many(self):
        one, two, four = Outline([TRIANGLE]), Outline([SMALL, FAR]), Outline([TRIANGLE] * 4)
        self.refused_at(TooMany, {"many": 5}, joined, [two, two, one])
        self.refused_at(TooMany, {"many": 16}, joined, (four, four, four, four))
        self.refused_at(TooMany, {"many": 5}, joined, [one, four])
        bad = [four, four, None]
        self.refused(NoOutline, bad, joined, bad)


if __name__ == "__main__":
    unittest.main()
