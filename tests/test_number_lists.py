"""Lists of numbers: point 15, and of 5 and 6 what concerns lists."""

import unittest
from fractions import Fraction

from hintedpoints.errors import NoNumber
from hintedpoints.numbers import rising, total
from tests.helpers import LONG_PART, MOST, NUMBERS, Looks, exact, no_numbers, number, refusals, small_numbers

# An order that is neither rising nor falling, some numbers twice.
MIXED = [each for pair in zip(small_numbers()[::3], small_numbers()[::-2]) for each in pair] + NUMBERS
NO_LISTS = [True, False, None, 0, 5, "", "12", "1/2", {}, {1: 2}, {(1, 2): 3}] + refusals()
BOTH = {"rising": rising, "total": total}


def many(count):
    """So many numbers, whole ones and parts, of up to sixty figures."""
    return [number(Fraction((-1) ** at * (7919 * at * at + 1) ** 7, at % 11 + 1)) for at in range(count)]


class Rising(unittest.TestCase, Looks):
    def test_numbers_rising_and_falling(self):
        for things in ([], [5], [(1, 2)], [2, 1], [1, 2, 3], [3, 2, 1], [1, 1, 1], [(1, 2), (1, 3), 0, (-1, 2), 1],
                       MIXED, small_numbers(), small_numbers()[::-1], many(400), NUMBERS * 20):
            wanted = sorted(things, key=exact)
            self.assertEqual(rising(things), wanted)
            self.assertEqual(rising(tuple(things)), wanted)
            self.assertEqual(rising(things, down=False), wanted)
            self.assertEqual(rising(things, down=True), wanted[::-1])
            self.assertEqual(rising(down=True, numbers=tuple(things)), wanted[::-1])

    def test_by_hand(self):
        self.assertEqual(rising([3, (1, 2), -1, (7, 2), 3]), [-1, (1, 2), 3, 3, (7, 2)])
        self.assertEqual(rising([3, (1, 2), -1, (7, 2), 3], down=True), [(7, 2), 3, 3, (1, 2), -1])
        self.assertEqual(rising([MOST, -MOST, LONG_PART, (1, MOST), 1]), [-MOST, (1, MOST), 1, LONG_PART, MOST])

    def test_a_part_is_a_list_of_two_numbers_too(self):
        self.assertEqual(rising((2, 1)), [1, 2])
        self.assertEqual(rising((1, 2), down=True), [2, 1])

    def test_a_new_list_is_told(self):
        for things in ([], [1], [1, 2, 3]):
            for down in (False, True):
                told = rising(things, down=down)
                again = rising(things, down=down)
                self.assertIs(type(told), list)
                self.assertIsNot(told, things)
                self.assertIsNot(told, again)
                told.append(9)
                self.assertEqual(len(again), len(things))
                self.assertEqual(rising(things, down=down), again)
        self.assertIs(type(rising((1, 2))), list)

    def test_what_is_handed_in_is_not_changed(self):
        things = [3, (1, 2), -1, 2]
        rising(things)
        rising(things, down=True)
        self.assertEqual(things, [3, (1, 2), -1, 2])

    def test_down_is_told_by_its_name_alone(self):
        self.assertRaises(TypeError, rising, [1], True)


class Total(unittest.TestCase, Looks):
    def test_sums(self):
        for things in ([], [5], [(1, 2)], [(1, 2), (1, 2)], [1, 2, 3], [(1, 2), (1, 3), (1, 6)], [(1, 3), (-1, 3)],
                       MIXED, small_numbers(), many(400), NUMBERS * 20):
            wanted = sum([exact(thing) for thing in things], Fraction(0))
            self.same_number(total(things), wanted)
            self.same_number(total(tuple(things)), wanted)
            for start in (0, 7, -7, (1, 2), (-5, 3), MOST, LONG_PART):
                self.same_number(total(things, start=start), wanted + exact(start))
                self.same_number(total(start=start, numbers=things), wanted + exact(start))

    def test_by_hand(self):
        self.assertEqual(total([]), 0)
        self.assertEqual(total([], start=(1, 2)), (1, 2))
        self.assertEqual(total([1, (1, 2), (1, 3)]), (11, 6))
        self.assertEqual(total([(1, 2), (1, 3)], start=(1, 6)), 1)
        self.assertEqual(total((1, 2)), 3)

    def test_sums_of_the_most_and_the_longest_parts(self):
        things = [number(Fraction(10 ** 59 + 3 * at, 10 ** 60 - 7 * at - 1)) for at in range(400)]
        told = total(things)
        self.same_number(told, sum([exact(thing) for thing in things], Fraction(0)))
        self.assertEqual(exact(total([told, told, 1])), 2 * exact(told) + 1)

    def test_what_is_handed_in_is_not_changed(self):
        things = [3, (1, 2), -1, 2]
        total(things, start=4)
        self.assertEqual(things, [3, (1, 2), -1, 2])
        self.assertEqual(total(things), total(things))

    def test_the_start_is_told_by_its_name_alone(self):
        self.assertRaises(TypeError, total, [1], 2)

    def test_refused_is_a_start_that_is_no_number(self):
        for start in no_numbers():
            self.refused(NoNumber, start, total, [1, 2], start=start)
            self.refused(NoNumber, start, total, (), start=start)


class Refused(unittest.TestCase, Looks):
    def test_refused_is_what_is_no_list(self):
        for act in BOTH.values():
            for thing in NO_LISTS:
                self.refused(NoNumber, thing, act, thing)
                self.refused(NoNumber, thing, act, numbers=thing)

    def test_at_most_400_things(self):
        for act in BOTH.values():
            act([1] * 400)
            act((1,) * 400)
            for thing in ([1] * 401, (1,) * 401, [None] * 401, [[]] * 500):
                self.refused(NoNumber, thing, act, thing)

    def test_refused_is_the_first_thing_that_is_no_number(self):
        for act in BOTH.values():
            for wrong in no_numbers():
                self.refused(NoNumber, wrong, act, [wrong])
                self.refused(NoNumber, wrong, act, (1, (1, 2), wrong, 4))
                self.refused(NoNumber, wrong, act, [1] * 399 + [wrong])
                self.refused(NoNumber, wrong, act, [1, wrong, None, [0]])

    def test_the_first_of_alike_ones_goes(self):
        for act in BOTH.values():
            first, second = [1], [1]
            self.refused(NoNumber, first, act, [0, first, second])
        self.refused(NoNumber, True, total, [0, True, False], start=None)

    def test_the_list_is_refused_ahead_of_the_start(self):
        for thing in NO_LISTS + [[1] * 401]:
            self.refused(NoNumber, thing, total, thing, start=[1])
        for wrong in no_numbers():
            self.refused(NoNumber, wrong, total, [1, wrong], start=[1])
            self.refused(NoNumber, wrong, total, start={"a": 1}, numbers=[1, wrong])


if __name__ == "__main__":
    unittest.main()
