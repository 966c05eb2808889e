"""Numbers as texts: point 14."""

import unittest
from fractions import Fraction

from hintedpoints.errors import NoNumber
from hintedpoints.numbers import number_of, number_text
from tests.helpers import LONG_PART, MOST, NUMBERS, Looks, no_numbers, no_things, small_numbers

SIXTY = "9" * 60


class Written(unittest.TestCase, Looks):
    def test_texts_of_numbers(self):
        for thing, wanted in [
                (0, "0"), (1, "1"), (-1, "-1"), (10, "10"), (-640, "-640"), ((1, 2), "1/2"), ((-1, 2), "-1/2"),
                ((10, 3), "10/3"), ((-7, 100), "-7/100"), (MOST, SIXTY), (-MOST, "-" + SIXTY),
                (LONG_PART, SIXTY + "/" + SIXTY[1:] + "8"), ((-1, MOST), "-1/" + SIXTY), (10 ** 59, "1" + "0" * 59)]:
            self.assertEqual(number_text(thing), wanted)
            self.assertEqual(number_text(number=thing), wanted)

    def test_up_to_4000_figures(self):
        self.assertEqual(number_text(10 ** 3999), "1" + "0" * 3999)
        self.assertEqual(number_text((-10 ** 1999, 3)), "-1" + "0" * 1999 + "/3")

    def test_refused_is_what_is_no_number(self):
        for thing in no_numbers():
            self.refused(NoNumber, thing, number_text, thing)
            self.refused(NoNumber, thing, number_text, number=thing)


class Read(unittest.TestCase, Looks):
    def test_what_is_written_is_read_as_the_same(self):
        for thing in NUMBERS + small_numbers():
            self.assertEqual(number_of(number_text(thing)), thing)
            self.assertEqual(number_of(thing=number_text(thing)), thing)

    def test_texts_that_write_a_number(self):
        for text, wanted in [
                ("0", 0), ("-0", 0), ("7", 7), ("-7", -7), ("10", 10), ("100", 100), (SIXTY, MOST),
                ("-" + SIXTY, -MOST),
                ("1/2", Fraction(1, 2)), ("-1/2", Fraction(-1, 2)), ("2/4", Fraction(1, 2)), ("4/2", 2), ("-4/2", -2),
                ("6/4", Fraction(3, 2)), ("5/1", 5), ("0/1", 0), ("0/7", 0), ("-0/7", 0), ("10/100", Fraction(1, 10)),
                (SIXTY + "/" + SIXTY, 1), ("-" + SIXTY + "/" + SIXTY, -1), ("1/" + SIXTY, Fraction(1, MOST))]:
            self.same_number(number_of(text), wanted)

    def test_all_tops_and_bases(self):
        for top in range(-12, 13):
            for base in range(1, 13):
                self.same_number(number_of(f"{top}/{base}"), Fraction(top, base))

    def test_other_texts_write_none(self):
        for text in ["", "-", "--1", "+1", " 1", "1 ", "1\n", "\n1", "1 2", "01", "00", "-01", "-00", "007", "1.5",
                     "1.", "1e3", "1_0", "0x1", "a", "1a", "/", "1/", "/1", "-/1", "1/0", "-1/0", "0/0", "1/00", "1/02",
                     "01/2", "1/-2", "-1/-2", "1/+2", "1//2", "1/2/3", "1/2/", "1 /2", "1/ 2", "1/2 ", "1/2\n",
                     "1-", "1-2", "-1-",
                     "1/2-", "1/a", "a/1", "1" + SIXTY, "-1" + SIXTY, "1" + SIXTY + "/2", "2/1" + SIXTY,
                     "0" * 61, "-" + "0" * 60, "1,5", "(1, 2)", "True", "None"]:
            self.assertIsNone(number_of(text), text)

    def test_other_things_write_none(self):
        for thing in no_things() + NUMBERS + [["1"], ("1",), {"1": 1}, ["1", "/", "2"]]:
            self.assertIsNone(number_of(thing))


if __name__ == "__main__":
    unittest.main()
