"""Exact numbers: points 2, 4, 5 and 11 to 13."""

import unittest
from fractions import Fraction

from hintedpoints.errors import NoBase, NoNumber
from hintedpoints.numbers import (bare_of, floor_of, fraction, is_name, is_number, is_whole, less, minus, over, plus,
                                  sign_of, times)
from tests.helpers import LONG_PART, MOST, NUMBERS, Looks, exact, no_numbers, no_things, small_numbers

TWO = {"plus": plus, "minus": minus, "times": times, "over": over, "less": less}
ONE = {"sign_of": sign_of, "bare_of": bare_of, "floor_of": floor_of}


class Kinds(unittest.TestCase):
    def test_whole_numbers_bounds_counted(self):
        for thing, low, high, wanted in [
                (3, 1, 5, True), (1, 1, 5, True), (5, 1, 5, True), (0, 1, 5, False), (6, 1, 5, False),
                (-3, -5, -1, True), (-5, -5, -1, True), (-1, -5, -1, True), (0, -5, -1, False), (-6, -5, -1, False),
                (0, 0, 0, True), (1, 0, 0, False), (MOST, -MOST, MOST, True), (-MOST, -MOST, MOST, True),
                (MOST, 0, MOST - 1, False)]:
            self.assertIs(is_whole(thing, low, high), wanted, (thing, low, high))

    def test_none_is_whole_where_low_is_above_high(self):
        for thing in (0, 1, 2, 3, 4, 5):
            self.assertIs(is_whole(thing, 4, 2), False)

    def test_other_things_are_no_whole_numbers(self):
        for thing in no_numbers() + [(1, 2), LONG_PART]:
            self.assertIs(is_whole(thing, -MOST, MOST), False, thing)
        self.assertIs(is_whole(True, 0, 1), False)
        self.assertIs(is_whole(False, 0, 1), False)

    def test_whole_numbers_by_names(self):
        self.assertIs(is_whole(high=9, thing=5, low=2), True)
        self.assertIs(is_whole(high=9, thing=1, low=2), False)

    def test_names(self):
        for thing in ("a", "z", "az", "stem", "abcdefgh", "zzzzzzzz"):
            self.assertIs(is_name(thing), True, thing)
            self.assertIs(is_name(thing=thing), True, thing)

    def test_other_things_are_no_names(self):
        for thing in no_things() + ["abcdefghi", "A", "aB", "a1", "1", "a b", "a ", " a", "a\n", "\n", "a-b", "a`",
                                    "a{", "ab/", "{", "`", "@", ["a"], ("a",), {"a": "b"}, 0, 1, (1, 2), ["a", "b"]]:
            self.assertIs(is_name(thing), False, thing)

    def test_numbers(self):
        for thing in NUMBERS + small_numbers():
            self.assertIs(is_number(thing), True, thing)
            self.assertIs(is_number(thing=thing), True, thing)

    def test_other_things_are_no_numbers(self):
        for thing in no_numbers():
            self.assertIs(is_number(thing), False, thing)

    def test_a_part_stands_in_lowest_terms_alone(self):
        for top in range(-30, 31):
            for base in range(-3, 31):
                alone = base >= 2 and Fraction(top, base).denominator == base
                self.assertIs(is_number((top, base)), alone, (top, base))


class Fractions(unittest.TestCase, Looks):
    def test_tops_over_bases(self):
        for top in range(-24, 25):
            for base in list(range(-24, 0)) + list(range(1, 25)):
                self.same_number(fraction(top, base), Fraction(top, base))

    def test_some_by_hand(self):
        for top, base, wanted in [(4, 2, 2), (1, 2, (1, 2)), (-6, 4, (-3, 2)), (6, -4, (-3, 2)), (-6, -4, (3, 2)),
                                  (0, 7, 0), (0, -7, 0), (5, 1, 5), (5, -1, -5), (MOST, MOST, 1), (MOST, -MOST, -1),
                                  (MOST, MOST - 1, LONG_PART), (-MOST, 1, -MOST), (1, -MOST, (-1, MOST))]:
            self.assertEqual(fraction(top, base), wanted)
            self.assertEqual(fraction(base=base, top=top), wanted)

    def test_refused_is_what_is_no_whole_number(self):
        for thing in no_numbers() + [(1, 2), LONG_PART]:
            self.refused(NoNumber, thing, fraction, thing, 1)
            self.refused(NoNumber, thing, fraction, 1, thing)
            self.refused(NoNumber, thing, fraction, thing, thing)
            self.refused(NoNumber, thing, fraction, base=0, top=thing)

    def test_the_top_is_refused_first(self):
        top, base = [1], {2: 3}
        self.refused(NoNumber, top, fraction, top, base)
        self.refused(NoNumber, True, fraction, True, False)
        self.refused(NoNumber, False, fraction, 0, False)

    def test_refused_is_a_base_of_nought(self):
        for top in (0, 1, -5, MOST):
            self.refused(NoBase, 0, fraction, top, 0)


class Reckoning(unittest.TestCase, Looks):
    def pairs(self):
        things = small_numbers() + NUMBERS
        return [(one, other) for one in things for other in things]

    def test_sums(self):
        for one, other in self.pairs():
            self.same_number(plus(one, other), exact(one) + exact(other))

    def test_what_is_left(self):
        for one, other in self.pairs():
            self.same_number(minus(one, other), exact(one) - exact(other))

    def test_products(self):
        for one, other in self.pairs():
            self.same_number(times(one, other), exact(one) * exact(other))

    def test_one_over_other(self):
        for one, other in self.pairs():
            if other != 0:
                self.same_number(over(one, other), exact(one) / exact(other))

    def test_less(self):
        for one, other in self.pairs():
            self.assertIs(less(one, other), exact(one) < exact(other))

    def test_some_by_hand(self):
        self.assertEqual(plus((1, 2), (1, 2)), 1)
        self.assertEqual(plus((1, 6), (1, 10)), (4, 15))
        self.assertEqual(plus((1, 3), (-1, 3)), 0)
        self.assertEqual(minus(1, (1, 3)), (2, 3))
        self.assertEqual(minus((1, 2), 3), (-5, 2))
        self.assertEqual(times((2, 3), (-3, 2)), -1)
        self.assertEqual(over(1, -4), (-1, 4))
        self.assertEqual(over((1, 2), (-1, 4)), -2)
        self.assertEqual(over(0, (-7, 3)), 0)
        self.assertIs(less((1, 3), (1, 2)), True)
        self.assertIs(less((-1, 3), (-1, 2)), False)
        self.assertIs(less(1, 1), False)

    def test_signs(self):
        for thing in NUMBERS + small_numbers():
            wanted = (exact(thing) > 0) - (exact(thing) < 0)
            self.same_number(sign_of(thing), wanted)
            self.same_number(sign_of(number=thing), wanted)

    def test_bare(self):
        for thing in NUMBERS + small_numbers():
            self.same_number(bare_of(thing), abs(exact(thing)))
            self.same_number(bare_of(number=thing), abs(exact(thing)))

    def test_told_numbers_may_be_handed_in_again_whatever_their_size(self):
        grown = LONG_PART
        for _ in range(5):
            grown = times(grown, grown)
        self.assertEqual(exact(grown), exact(LONG_PART) ** 32)
        self.same_number(plus(grown, (1, 3)), exact(LONG_PART) ** 32 + Fraction(1, 3))
        self.assertEqual(over(grown, grown), 1)
        self.assertEqual(floor_of(grown), 1)

    def test_by_names(self):
        self.assertEqual(plus(other=3, one=(1, 2)), (7, 2))
        self.assertEqual(minus(other=3, one=(1, 2)), (-5, 2))
        self.assertEqual(times(other=3, one=(1, 2)), (3, 2))
        self.assertEqual(over(other=3, one=(1, 2)), (1, 6))
        self.assertIs(less(other=3, one=(1, 2)), True)

    def test_refused_is_one_then_other(self):
        for thing in no_numbers():
            for act in TWO.values():
                self.refused(NoNumber, thing, act, thing, 1)
                self.refused(NoNumber, thing, act, (1, 2), thing)
                self.refused(NoNumber, thing, act, thing, 0)
                self.refused(NoNumber, thing, act, 0, other=thing)
                self.refused(NoNumber, thing, act, other=[0], one=thing)

    def test_the_first_of_two_wrong_ones_is_refused(self):
        for act in TWO.values():
            one, other = [1], [1]
            self.refused(NoNumber, one, act, one, other)
            self.refused(NoNumber, True, act, True, False)
            self.refused(NoNumber, False, act, False, True)

    def test_refused_is_one_over_nought(self):
        for one in (0, 1, (-1, 2), MOST, LONG_PART):
            self.refused(NoBase, 0, over, one, 0)
            self.refused(NoBase, 0, over, other=0, one=one)

    def test_of_one_number_refused_is_what_is_none(self):
        for thing in no_numbers():
            for act in ONE.values():
                self.refused(NoNumber, thing, act, thing)
                self.refused(NoNumber, thing, act, number=thing)


class Floors(unittest.TestCase, Looks):
    def test_floors_of_whole_steps_and_parts(self):
        for thing in small_numbers() + NUMBERS:
            for step in (1, 2, 64, (1, 2), (2, 3), (7, 4), MOST, (1, MOST), LONG_PART):
                wanted = exact(thing) // exact(step) * exact(step)
                self.same_number(floor_of(thing, step=step), wanted)

    def test_the_step_is_1_where_none_is_told(self):
        for thing in small_numbers() + NUMBERS:
            self.same_number(floor_of(thing), exact(thing) // 1)

    def test_some_by_hand(self):
        for thing, step, wanted in [(63, 64, 0), (64, 64, 64), (65, 64, 64), (-1, 64, -64), (-64, 64, -64),
                                    (-65, 64, -128), ((-1, 2), 1, -1), ((7, 2), (2, 3), (10, 3)), (0, (1, 2), 0),
                                    ((-1, 4), (1, 2), (-1, 2))]:
            self.assertEqual(floor_of(thing, step=step), wanted)
            self.assertEqual(floor_of(step=step, number=thing), wanted)

    def test_refused_is_a_step_that_is_no_number_above_nought(self):
        for step in no_numbers() + [0, -1, -64, (-1, 2), -MOST, (-1, MOST)]:
            self.refused(NoNumber, step, floor_of, 5, step=step)
            self.refused(NoNumber, step, floor_of, (1, 2), step=step)

    def test_the_number_is_refused_ahead_of_the_step(self):
        for thing in no_numbers():
            self.refused(NoNumber, thing, floor_of, thing, step=0)
            self.refused(NoNumber, thing, floor_of, step=[1], number=thing)

    def test_the_step_is_told_by_its_name_alone(self):
        self.assertRaises(TypeError, floor_of, 5, 2)


class Unchanged(unittest.TestCase):
    def test_what_is_handed_in_is_not_changed(self):
        for thing in no_numbers():
            before = repr(thing)
            is_whole(thing, 0, 9)
            is_name(thing)
            is_number(thing)
            self.assertRaises(NoNumber, fraction, thing, thing)
            for act in TWO.values():
                self.assertRaises(NoNumber, act, thing, thing)
            for act in ONE.values():
                self.assertRaises(NoNumber, act, thing)
            self.assertEqual(repr(thing), before)

    def test_the_same_question_has_the_same_answer(self):
        for _ in range(2):
            self.assertEqual(plus((1, 2), (1, 3)), (5, 6))
            self.assertEqual(floor_of((7, 2)), 3)
            self.assertIs(is_number((2, 4)), False)


if __name__ == "__main__":
    unittest.main()
