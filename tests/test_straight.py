"""Letters' programs made straight: point 85."""

import unittest

from hintedpoints.errors import Fault, NoFont, NoSize, NoSuch
from hintedpoints.fonts import Font, Letter, Made
from hintedpoints.outlines import Outline
from hintedpoints.programs import Program
from hintedpoints.sizes import Size
from hintedpoints.straight import straight
from tests.helpers import Looks
from tests.makers import FontMaker
from tests.test_sizes import no_fonts, no_names_of_letters, no_sizes

OUTLINE = Outline([[(0, 0, True), (100, 0, False), (0, 100, True)]])
BAD = Program([("push", 1), ("over",)])
BLOCKS = {"if", "repeat", "when", "call"}


def with_program(letter, program):
    """The letter that has another program."""
    if isinstance(letter, Made):
        return Made(letter.parts(), program=program)
    return Letter(letter.outline(), program=program)


def font(program, first=None, parts=None):
    """A font of a letter `a` and a letter `b` made of it, or of other parts, with a program."""
    return Font(64, first=first, definitions=[("x", Program([("push", 2), ("settle",)]))],
                letters=[("a", Letter(OUTLINE)), ("b", Made(parts or [("a", 3, 4)], program=program))])


class Straight(unittest.TestCase, Looks):
    def test_words_with_blocks(self):
        program = Program([("size",), ("push", 12), ("same",), ("if", [("call", "x")], [("push", 1), ("settle",)]),
                           ("repeat", 2, [("when", 1, 12, [("rest", "east")])])], names=["x"])
        self.assertEqual(straight(font(program), "b", size=12).words(), [
            ("size",), ("push", 12), ("same",), ("drop",), ("push", 2), ("settle",), ("rest", "east"),
            ("rest", "east")])
        told = straight(size=13, font=font(program), name="b")
        self.assertIsInstance(told, Program)
        self.assertEqual(told.words(), [("size",), ("push", 12), ("same",), ("drop",), ("push", 1), ("settle",)])
        self.assertEqual((told.calls(), told.deep()), ([], 0))

    def test_by_what_the_first_program_made(self):
        first = Program([("push", 1), ("push", 0), ("keep",)])
        program = Program([("push", 0), ("load",), ("if", [("push", 0), ("settle",)], [])])
        self.assertEqual(straight(font(program, first), "b", size=1).words(),
                         [("push", 0), ("load",), ("drop",), ("push", 0), ("settle",)])
        self.assertEqual(straight(font(program), "b", size=1).words(), [("push", 0), ("load",), ("drop",)])

    def test_without_a_program(self):
        for name in "ab":
            self.assertEqual(straight(font(None), name, size=200), Program([]))
        self.assertEqual(straight(font(Program([])), "b", size=1), Program([]))

    def test_four_hundred_words(self):
        program = Program([("repeat", 19, [("rest", "east")] * 20)])
        self.assertEqual(len(straight(font(program), "b", size=1)), 380)
        self.assertEqual(len(straight(font(Program([("rest", "east")] * 400)), "b", size=1)), 400)
        many = Program([("repeat", 20, [("rest", "east")] * 19)])
        self.refused_at(Fault, {"done": 400, "why": "budget"}, straight, font(many), "b", size=1)

    def test_refused(self):
        for thing in no_fonts():
            self.refused(NoFont, thing, straight, thing, None, size=None)
        for thing in no_names_of_letters():
            self.refused(NoSuch, thing, straight, font(None), thing, size=None)
        for thing in no_sizes():
            self.refused(NoSize, thing, straight, font(BAD, BAD), "b", size=thing)

    def test_refused_with_a_fault(self):
        drop = Program([("drop",)])
        self.refused_at(Fault, {"done": 1, "why": "lack"}, straight, font(None, BAD), "a", size=1)
        self.refused_at(Fault, {"done": 1, "why": "lack"}, straight, font(drop, BAD), "b", size=1)
        self.refused_at(Fault, {"done": 0, "why": "lack"}, straight, font(drop), "b", size=1)
        rows = [("a", Letter(OUTLINE, program=BAD)), ("b", Made([("a", 0, 0)])),
                ("c", Made([("b", 0, 0)], program=drop))]
        for name in "abc":
            self.refused_at(Fault, {"done": 1, "why": "lack"}, straight, Font(64, letters=rows), name, size=1)

    def test_stack_and_budget_are_those_told_nowhere(self):
        self.refused_at(Fault, {"done": 24, "why": "full"}, straight, font(Program([("size",)] * 25)), "b", size=1)
        self.refused_at(Fault, {"done": 400, "why": "budget"}, straight,
                        font(Program([("repeat", 20, [("repeat", 20, [])])])), "b", size=1)

    def test_it_does_the_same_at_its_size(self):
        told, shorter = 0, 0
        for seed in range(120):
            maker = FontMaker(seed)
            made, size = maker.font(4), maker.chance.choice([1, 5, 12, 31, 200])
            for name in made.names():
                program = made.letter(name).program()
                try:
                    words = straight(made, name, size=size)
                except Fault:
                    self.assertRaises(Fault, Size(made, size).letter, name)
                    continue
                self.assertEqual([word for word in words.words() if word[0] in BLOCKS], [])
                other = made.replaced(name, with_program(made.letter(name), words))
                self.assertEqual(Size(other, size).letter(name), Size(made, size).letter(name))
                self.assertEqual(straight(other, name, size=size), words)
                told += 1
                shorter += program is not None and program.deep() > 0
        self.assertGreater(told, 150)
        self.assertGreater(shorter, 20)


if __name__ == "__main__":
    unittest.main()
