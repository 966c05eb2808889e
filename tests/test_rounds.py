"""Kinds of rounding and least distances: points 18 and 19."""

import unittest
from fractions import Fraction

from hintedpoints.errors import NoNumber, NoRound
from hintedpoints.rounds import by_period, rounded, rounder
from tests.helpers import LONG_PART, MOST, NUMBERS, Looks, exact, no_numbers, no_things, number, small_numbers

KINDS = ["grid", "half", "double", "down", "up", "off"]
PERIODS = {"grid": (64, 0), "half": (64, 32), "double": (32, 0)}
# Around all places and all middles of these kinds, on both sides of nought.
DISTANCES = [number(Fraction(at, 2)) for at in range(-420, 421)] + [
    number(Fraction(at * 16 * 97 + turn, 97)) for at in range(-14, 15) for turn in (-1, 1)] + small_numbers()


def no_kinds():
    """Things that are no kinds of rounding, those that look like some with them."""
    return no_things() + ["Grid", "GRID", "grid ", " grid", "grid\n", "gri", "grids", "griddown", "none", "0", "period",
                          ["grid"], ("grid",), {"grid": 1}, ["g", "r", "i", "d"], 0, 1, 64, (64, 0), (1, 2),
                          ("grid", 64), [64, 0]]


def at_period(distance, period, phase):
    """The nearest place, the further one of two: told by looking at all places around."""
    bare = abs(distance)
    around = bare // period * period
    places = [phase + around + step * period for step in range(-2, 3)]
    places = [place for place in places if place >= phase] + [phase]
    least = min(abs(place - bare) for place in places)
    told = max(place for place in places if abs(place - bare) == least)
    return -told if distance < 0 else told


def by_kind(distance, kind):
    """What a kind makes of a distance, as a Fraction."""
    if kind in PERIODS:
        return at_period(distance, *PERIODS[kind])
    sign = -1 if distance < 0 else 1
    if kind == "down":
        return sign * (abs(distance) // 64 * 64)
    if kind == "up":
        return sign * -(-abs(distance) // 64 * 64)
    return distance


def kept_from(distance, kind, least):
    """What a kind and a least distance make of a distance, as a Fraction."""
    told = by_kind(distance, kind)
    if abs(told) < least:
        return -least if distance < 0 else least
    return told


class Kinds(unittest.TestCase, Looks):
    def test_all_kinds(self):
        for kind in KINDS:
            act = rounder(kind)
            for distance in DISTANCES + NUMBERS:
                self.same_number(act(distance), by_kind(exact(distance), kind))

    def test_by_hand(self):
        for kind, rows in {
                "grid": [(0, 0), (31, 0), (32, 64), (33, 64), (95, 64), (96, 128), (-31, 0), (-32, -64), (-96, -128),
                         ((63, 2), 0), ((65, 2), 64), ((-63, 2), 0)],
                "half": [(0, 32), (1, 32), (-1, -32), (63, 32), (64, 96), (-64, -96), (-63, -32), (65, 96), (127, 96),
                         (128, 160), ((-1, 2), -32)],
                "double": [(0, 0), (15, 0), (16, 32), (-16, -32), (-15, 0), (47, 32), (48, 64), (64, 64)],
                "down": [(0, 0), (63, 0), (64, 64), (127, 64), (-63, 0), (-64, -64), (-65, -64), ((129, 2), 64)],
                "up": [(0, 0), (1, 64), (64, 64), (65, 128), (-1, -64), (-64, -64), (-65, -128), ((1, 2), 64)],
                "off": [(0, 0), (17, 17), (-17, -17), ((1, 3), (1, 3)), ((-1, 3), (-1, 3))]}.items():
            for distance, wanted in rows:
                self.assertEqual(rounder(kind)(distance), wanted, (kind, distance))
                self.assertEqual(rounder(kind=kind)(distance), wanted, (kind, distance))
                self.assertEqual(rounded(distance, kind=kind), wanted, (kind, distance))

    def test_below_nought_as_above_it(self):
        for kind in KINDS:
            act = rounder(kind)
            for distance in DISTANCES:
                if exact(distance) > 0:
                    self.same_number(act(number(-exact(distance))), -exact(act(distance)))

    def test_of_sixty_figures(self):
        for distance in (MOST, -MOST, LONG_PART, (-MOST, 128), (1, MOST), (-1, MOST)):
            for kind in KINDS:
                self.same_number(rounder(kind)(distance), by_kind(exact(distance), kind))

    def test_defs_have_nothing_in_common(self):
        grid, half = rounder("grid"), rounder("half")
        self.assertEqual((grid(10), half(10), grid(10)), (0, 32, 0))
        near, far = by_period(64), by_period(64, 48)
        self.assertEqual((near(10), far(10), near(10)), (0, 48, 0))

    def test_the_same_question_has_a_def_that_tells_the_same(self):
        for kind in KINDS:
            act, other = rounder(kind), rounder(kind)
            for distance in DISTANCES:
                self.assertEqual(act(distance), other(distance))
                self.assertEqual(act(distance), act(distance))

    def test_refused_is_what_is_no_kind(self):
        for thing in no_kinds():
            before = repr(thing)
            self.refused(NoRound, thing, rounder, thing)
            self.refused(NoRound, thing, rounder, kind=thing)
            self.assertEqual(repr(thing), before)


class Periods(unittest.TestCase, Looks):
    def test_periods_and_phases(self):
        for period in (1, 2, 7, 48, 64, (1, 2), (5, 3), (129, 2)):
            for share in (0, Fraction(1, 4), Fraction(1, 2), Fraction(3, 4), Fraction(99, 100)):
                phase = number(exact(period) * share)
                act = by_period(period, phase)
                for step in range(-33, 34):
                    distance = number(exact(period) * Fraction(step, 8))
                    self.same_number(act(distance), at_period(exact(distance), exact(period), exact(phase)))

    def test_by_hand(self):
        act = by_period(64, 48)
        for distance, wanted in [(0, 48), (47, 48), (79, 48), (80, 112), (-79, -48), (-80, -112), (-1, -48),
                                 (112, 112)]:
            self.assertEqual(act(distance), wanted)
        self.assertEqual(by_period((1, 2))((1, 4)), (1, 2))
        self.assertEqual(by_period((1, 2))((-1, 4)), (-1, 2))
        self.assertEqual(by_period((1, 2))((1, 5)), 0)
        self.assertEqual(by_period(3, (5, 2))(4), (11, 2))

    def test_the_phase_is_0_where_none_is_told(self):
        for distance in DISTANCES:
            self.same_number(by_period(48)(distance), at_period(exact(distance), 48, 0))

    def test_like_the_kinds(self):
        for kind, (period, phase) in PERIODS.items():
            act, other = rounder(kind), by_period(phase=phase, period=period)
            for distance in DISTANCES:
                self.assertEqual(act(distance), other(distance))

    def test_of_sixty_figures(self):
        for period in (MOST, LONG_PART, (1, MOST)):
            phase = number(exact(period) / 3)
            for distance in NUMBERS:
                wanted = at_period(exact(distance), exact(period), exact(phase))
                self.same_number(by_period(period, phase)(distance), wanted)

    def test_refused_is_a_period_that_is_no_number_above_nought(self):
        for thing in no_numbers() + [0, -1, (-1, 2), -MOST]:
            self.refused(NoRound, thing, by_period, thing)
            self.refused(NoRound, thing, by_period, thing, 0)
            self.refused(NoRound, thing, by_period, phase=[1], period=thing)

    def test_then_a_phase_that_is_none_below_the_period(self):
        for thing in no_numbers() + [-1, (-1, 2), -MOST, 64, 65, (129, 2), MOST]:
            self.refused(NoRound, thing, by_period, 64, thing)
            self.refused(NoRound, thing, by_period, period=64, phase=thing)

    def test_the_phase_at_its_period(self):
        for period in (1, 64, (1, 2), (5, 3), MOST, LONG_PART):
            self.refused(NoRound, period, by_period, period, period)
        self.assertEqual(by_period(64, 63)(0), 63)
        self.assertEqual(by_period(64, (127, 2))(0), (127, 2))


class Least(unittest.TestCase, Looks):
    def test_kinds_and_leasts(self):
        for kind in KINDS:
            for least in (0, 1, 20, 32, 64, (129, 2), 100, MOST, (1, MOST)):
                for distance in DISTANCES[::3] + NUMBERS:
                    wanted = kept_from(exact(distance), kind, exact(least))
                    self.same_number(rounded(distance, kind=kind, least=least), wanted)

    def test_by_hand(self):
        for distance, kind, least, wanted in [
                (10, "grid", 64, 64), (-10, "grid", 64, -64), (0, "grid", 64, 64), (100, "grid", 64, 128),
                (-10, "down", (1, 2), (-1, 2)), (-100, "off", 64, -100), (64, "grid", 64, 64), (-64, "off", 65, -65),
                (0, "down", 7, 7), (0, "half", 20, 32), (0, "half", 33, 33), (-1, "half", 33, -33), (-1, "grid", 0, 0)]:
            self.assertEqual(rounded(distance, kind=kind, least=least), wanted)
            self.assertEqual(rounded(least=least, kind=kind, distance=distance), wanted)

    def test_grid_and_0_where_nothing_is_told(self):
        for distance in DISTANCES:
            self.same_number(rounded(distance), by_kind(exact(distance), "grid"))
            self.same_number(rounded(distance, least=40), kept_from(exact(distance), "grid", 40))
        self.assertEqual(rounded(10), 0)
        self.assertEqual(rounded(10, kind="off"), 10)

    def test_kind_and_least_are_told_by_their_names_alone(self):
        self.assertRaises(TypeError, rounded, 5, "grid")

    def test_refused_is_a_distance_that_is_no_number(self):
        for thing in no_numbers():
            self.refused(NoNumber, thing, rounded, thing)
            self.refused(NoNumber, thing, rounded, thing, kind=None, least=None)
            self.refused(NoNumber, thing, rounded, least=-1, kind="", distance=thing)

    def test_then_what_is_no_kind(self):
        for thing in no_kinds():
            self.refused(NoRound, thing, rounded, 5, kind=thing)
            self.refused(NoRound, thing, rounded, 5, least=-1, kind=thing)

    def test_then_a_least_that_is_no_number_from_0_on(self):
        for thing in no_numbers() + [-1, (-1, 2), -MOST, (-1, MOST)]:
            for kind in KINDS:
                self.refused(NoNumber, thing, rounded, 5, least=thing, kind=kind)
            self.refused(NoNumber, thing, rounded, 5, least=thing)

    def test_what_is_handed_in_is_not_changed(self):
        for thing in no_kinds() + no_numbers():
            before = repr(thing)
            self.assertRaises(NoNumber, rounded, [thing])
            self.assertRaises(NoRound, rounded, 1, kind=[thing])
            self.assertRaises(NoRound, by_period, [thing], thing)
            self.assertRaises(NoNumber, rounded, 1, least=[thing])
            self.assertEqual(repr(thing), before)


if __name__ == "__main__":
    unittest.main()
