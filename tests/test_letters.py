"""Scaling, letters and made letters: points 41 to 43."""

import unittest
from fractions import Fraction

from hintedpoints.errors import NoNumber, NoOutline, NoParts, NoProgram, NoSize, Unready
from hintedpoints.fonts import Letter, Made, scaled
from hintedpoints.outlines import Outline
from hintedpoints.programs import Program
from tests.helpers import MOST, NUMBERS, Looks, exact, no_numbers, no_things, objects

ROUND = [(0, 0, True), (9, 0, True), (0, 9, False)]
OUTLINE = Outline([ROUND])
OTHER = Outline([ROUND, ROUND])
PROGRAM = Program([("size",), ("drop",)])


def no_parts():
    """Things that are no parts of a made letter, the whole."""
    return [None, True, 0, "a", "", {}, {"a": 1}, [], (), [("a", 0, 0)] * 5, (("a", 0, 0),) * 5, [None] * 5] + objects()


def no_part():
    """Things that are no part of a made letter."""
    return no_things() + ["a", 1, ("a", 0), ("a", 0, 0, 0), ["a", 0, 0], ("A", 0, 0), ("", 0, 0), ("abcdefghi", 0, 0),
                          (1, 0, 0), (None, 0, 0), ("a", True, 0), ("a", 0, False), ("a", (1, 2), 0), ("a", 0, (3, 2)),
                          ("a", "0", 0), ("a", 0, None), ("a", 100000, 0), ("a", -100000, 0), ("a", 0, 100000),
                          ("a", 0, -100000), ("a", MOST, 0), {"a": 1, 0: 2, 1: 3}, (["a"], 0, 0)]


def no_programs():
    """Things that are neither programs nor None."""
    return [thing for thing in no_things() if thing is not None and not isinstance(thing, Program)] + [
        0, 1, "drop", [("drop",)], (("drop",),), ("drop",)]


class Scaled(unittest.TestCase, Looks):
    def test_scaled(self):
        for number in NUMBERS + [1, -3, 1000, -99999]:
            for size in (1, 2, 12, 199, 200):
                for em in (16, 17, 1000, 2048, 4095, 4096):
                    wanted = exact(number) * size * 64 / em
                    self.same_number(scaled(number, size, em), wanted)
                    self.same_number(scaled(em=em, size=size, number=number), wanted)

    def test_by_hand(self):
        self.assertEqual(scaled(1000, 16, 1000), 1024)
        self.assertEqual(scaled(1, 1, 64), 1)
        self.assertEqual(scaled(1, 1, 4096), (1, 64))
        self.assertEqual(scaled((-3, 2), 200, 16), -1200)
        self.assertEqual(scaled(0, 200, 16), 0)

    def test_of_sixty_figures(self):
        self.same_number(scaled(MOST, 199, 4096), Fraction(MOST * 199 * 64, 4096))
        self.same_number(scaled(scaled(MOST, 199, 17), 1, 64), Fraction(MOST * 199 * 64, 17))

    def test_refused(self):
        for thing in no_numbers():
            self.refused(NoNumber, thing, scaled, thing, 1, 16)
            self.refused(NoNumber, thing, scaled, thing, None, None)
        for thing in no_numbers() + [0, -1, 201, (1, 2), (3, 2), MOST]:
            self.refused(NoSize, thing, scaled, 1, thing, 16)
            self.refused(NoSize, thing, scaled, 1, thing, None)
        for thing in no_numbers() + [0, -16, 15, 4097, (33, 2), MOST]:
            self.refused(NoNumber, thing, scaled, 1, 1, thing)


class Letters(unittest.TestCase, Looks):
    def test_it_tells_what_it_has(self):
        letter = Letter(OUTLINE, program=PROGRAM)
        self.assertEqual(letter.outline(), OUTLINE)
        self.assertEqual(letter.program(), PROGRAM)
        self.assertEqual(letter.parts(), [])
        self.assertIs(type(letter.parts()), list)
        letter.parts().append(1)
        self.assertEqual(letter.parts(), [])
        for bare in (Letter(OUTLINE), Letter(program=None, outline=OUTLINE)):
            self.assertIsNone(bare.program())
            self.assertEqual(bare.outline(), OUTLINE)

    def test_a_made_one_tells_what_it_has(self):
        parts = [("a", 3, -4), ("abcdefgh", -99999, 99999), ("a", 3, -4)]
        for handed in (parts, tuple(parts)):
            made = Made(handed, program=PROGRAM)
            self.assertEqual(made.parts(), parts)
            self.assertIs(type(made.parts()), list)
            self.assertIs(type(made.parts()[0]), tuple)
            self.assertEqual(made.program(), PROGRAM)
            self.assertRaises(Unready, made.outline)
        self.assertIsNone(Made(parts=[("a", 0, 0)]).program())
        self.assertIsNone(Made([("a", 0, 0)] * 4, program=None).program())
        self.assertEqual(len(Made([("a", 0, 0)] * 4).parts()), 4)

    def test_a_made_one_is_a_letter_too(self):
        self.assertTrue(issubclass(Made, Letter))
        self.assertIsInstance(Made([("a", 0, 0)]), Letter)
        self.assertNotIsInstance(Letter(OUTLINE), Made)

    def test_it_keeps_a_copy(self):
        parts = [("a", 0, 0)]
        made = Made(parts)
        parts.append(("b", 0, 0))
        made.parts().clear()
        self.assertEqual(made.parts(), [("a", 0, 0)])

    def test_refused_is_what_is_no_outline(self):
        for thing in no_things() + [[ROUND], (ROUND,), repr(OUTLINE), 1]:
            if not isinstance(thing, Outline):
                self.refused(NoOutline, thing, Letter, thing)
                self.refused(NoOutline, thing, Letter, program=1, outline=thing)

    def test_refused_are_no_parts(self):
        for thing in no_parts():
            self.refused(NoParts, thing, Made, thing)
            self.refused(NoParts, thing, Made, program=1, parts=thing)
        for thing in no_part():
            self.refused(NoParts, thing, Made, [thing])
            self.refused(NoParts, thing, Made, (("a", 0, 0), thing, None), program=1)

    def test_then_what_is_no_program(self):
        for thing in no_programs():
            self.refused(NoProgram, thing, Letter, OUTLINE, program=thing)
            self.refused(NoProgram, thing, Made, [("a", 0, 0)], program=thing)
        self.assertRaises(TypeError, Letter, OUTLINE, PROGRAM)
        self.assertRaises(TypeError, Made, [("a", 0, 0)], PROGRAM)


class Equal(unittest.TestCase):
    def test_equal_is_what_has_the_same(self):
        self.assertTrue(Letter(Outline((tuple(ROUND),))) == Letter(OUTLINE))
        self.assertTrue(Letter(OUTLINE, program=Program(PROGRAM.words())) == Letter(OUTLINE, program=PROGRAM))
        self.assertTrue(Made([("a", 1, 2)], program=PROGRAM) == Made((("a", 1, 2),), program=PROGRAM))
        self.assertFalse(Made([("a", 1, 2)]) != Made([("a", 1, 2)]))

    def test_other_ones_are_not(self):
        letters = [Letter(OUTLINE), Letter(OTHER), Letter(OUTLINE, program=PROGRAM),
                   Letter(OUTLINE, program=Program([])), Made([("a", 0, 0)]), Made([("a", 0, 1)]), Made([("b", 0, 0)]),
                   Made([("a", 0, 0), ("b", 0, 0)]), Made([("b", 0, 0), ("a", 0, 0)]), Made([("a", 0, 0)] * 2),
                   Made([("a", 0, 0)], program=PROGRAM), Made([("a", 0, 0)], program=Program([]))]
        for at, one in enumerate(letters):
            for other_at, other in enumerate(letters):
                self.assertIs(one == other, at == other_at, (at, other_at))
                self.assertIs(one != other, at != other_at)

    def test_nothing_else_is(self):
        for letter in (Letter(OUTLINE), Made([("b", 5, 5)])):
            for thing in no_things() + [OUTLINE, [("b", 5, 5)], PROGRAM]:
                if not isinstance(thing, Letter):
                    self.assertIs(letter == thing, False)
                    self.assertIs(thing == letter, False)
                    self.assertIs(letter != thing, True)


if __name__ == "__main__":
    unittest.main()
