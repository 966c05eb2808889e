"""Sizes, and the shapes that letters have there: points 71 to 73."""

import unittest

from hintedpoints.errors import Fault, NoFont, NoLimit, NoSize, NoSuch
from hintedpoints.fonts import Font, Letter, Made
from hintedpoints.outlines import Outline
from hintedpoints.programs import Program
from hintedpoints.sizes import BUDGET, STACK, Shape, Size
from tests.helpers import MOST, Looks, no_numbers, no_things
from tests.makers import FontMaker
from tests.model import Stop
from tests.sizemodel import SizeModel

ROUND = [(0, 0, True), (100, 0, False), (0, 100, True)]
OTHER = [(7, 7, True), (9, 7, True), (9, 9, True), (7, 9, False)]
OUTLINE = Outline([ROUND, OTHER])
FOUR_NOUGHTS = [((0, 0), (0, 0))] * 4


def no_fonts():
    """Things that are no fonts."""
    return [thing for thing in no_things() if not isinstance(thing, Font)] + [1000, "font 1000"]


def no_sizes():
    """Things that are no sizes."""
    return no_numbers() + [0, -1, 201, (1, 2), (3, 2), MOST, -MOST, "12"]


def no_names_of_letters():
    """Things that no letter of a font of `a` to `f` has as its name."""
    return no_things() + ["A", "aa", "z", "x", "abcdefghi", "a ", 0, 1, (1, 2), ("a",), ["a"], {"a": 1}]


def keeping(number, at, ahead=()):
    """A program that keeps a number in the store."""
    return Program([*ahead, ("push", number), ("push", at), ("keep",)])


def font_with(first=None, worths=(), letters=(), em=64):
    """A font of 64 units an em: what is 1 there is 64 at size 64."""
    return Font(em, worths=worths, first=first, letters=letters)


class Sizes(unittest.TestCase, Looks):
    def test_limits(self):
        self.assertEqual((STACK, BUDGET), (24, 400))

    def test_as_it_begins_without_a_first_program(self):
        for number in (1, 12, 200):
            told = Size(Font(1000, worths=[80, -99999, 0]), number)
            self.assertEqual(told.size(), number)
            self.assertEqual(told.store(), [0] * 8)
            self.same_number(told.worths()[0], SizeModel(Font(1000, worths=[80]), number).worths[0])
            self.assertEqual(told.made_up(), FOUR_NOUGHTS)
            self.assertIsNone(told.fault())
        self.assertEqual(Size(Font(1000, worths=[80, -99999, 0]), 12).worths(), [(1536, 25), (-9599904, 125), 0])
        self.assertEqual(Size(Font(64), 5).worths(), [])

    def test_what_a_first_program_makes(self):
        first = Program([("push", (1, 2)), ("push", 7), ("keep",), ("size",), ("push", 0), ("keep",),
                         ("push", 5), ("push", 1), ("setworth",), ("push", -2), ("push", 0), ("put",)])
        told = Size(font_with(first, [3, 4]), 64)
        self.assertEqual(told.store(), [64, 0, 0, 0, 0, 0, 0, (1, 2)])
        self.assertEqual(told.worths(), [192, 5])
        self.assertEqual(told.made_up(), [((0, 0), (0, 0)), ((192, 0), (192, 0)), ((0, 0), (0, 0)), ((0, 0), (0, 0))])
        self.assertIsNone(told.fault())

    def test_a_first_program_calls_definitions(self):
        inner = Program([("push", 9), ("push", 3), ("keep",)])
        font = Font(64, definitions=[("x", inner), ("y", Program([("call", "x")], names=["x"]))],
                    first=Program([("call", "y")], names=["y"]))
        self.assertEqual(Size(font, 1).store(), [0, 0, 0, 9, 0, 0, 0, 0])

    def test_where_it_is_refused_all_is_as_it_began(self):
        words = [("push", 5), ("push", 1), ("keep",), ("push", 5), ("push", 0), ("setworth",), ("push", -1),
                 ("push", 0),
                 ("put",)]
        for end, fault in (([("drop",)], (9, "lack")), ([("push", 1), ("push", 0), ("over",)], (11, "nought")),
                           ([("push", 0), ("settle",)], (10, "point"))):
            told = Size(font_with(Program(words + end), [3]), 64)
            self.assertEqual(told.fault(), fault)
            self.assertIs(type(told.fault()), tuple)
            self.assertEqual((told.store(), told.worths(), told.made_up()), ([0] * 8, [192], FOUR_NOUGHTS))

    def test_stack_and_budget(self):
        first = Program([("push", 1)] * 25)
        self.assertEqual(Size(font_with(first), 1).fault(), (24, "full"))
        self.assertIsNone(Size(font_with(first), 1, stack=25).fault())
        self.assertEqual(Size(font_with(first), 1, stack=1).fault(), (1, "full"))
        self.assertIsNone(Size(font_with(first), 1, stack=100, budget=25).fault())
        self.assertEqual(Size(font_with(first), 1, budget=24, stack=100).fault(), (24, "budget"))
        full = Program([("push", 1), ("drop",)] * 200)
        self.assertIsNone(Size(font_with(full), 1).fault())
        self.assertEqual(Size(font_with(full), 1, budget=399).fault(), (399, "budget"))

    def test_names_of_arguments(self):
        told = Size(size=3, budget=9, font=font_with(), stack=2)
        self.assertEqual(told.size(), 3)

    def test_lists_are_new_ones(self):
        told = Size(font_with(worths=[1]), 64)
        for ask in (told.store, told.worths, told.made_up):
            ask().clear()
        self.assertEqual((told.store(), told.worths(), told.made_up()), ([0] * 8, [64], FOUR_NOUGHTS))
        self.assertEqual([type(ask()) for ask in (told.store, told.worths, told.made_up)], [list] * 3)

    def test_refused(self):
        font = font_with()
        for thing in no_fonts():
            self.refused(NoFont, thing, Size, thing, 1)
            self.refused(NoFont, thing, Size, thing, None, stack=None, budget=None)
        for thing in no_sizes():
            self.refused(NoSize, thing, Size, font, thing)
            self.refused(NoSize, thing, Size, font, thing, stack=None, budget=None)
        for thing in no_numbers() + [0, -1, 101, (1, 2), MOST]:
            self.refused(NoLimit, thing, Size, font, 1, stack=thing)
            self.refused(NoLimit, thing, Size, font, 1, budget=None, stack=thing)
        for thing in no_numbers() + [0, -1, 401, (1, 2), MOST]:
            self.refused(NoLimit, thing, Size, font, 1, budget=thing)
            self.refused(NoLimit, thing, Size, font, 1, budget=thing, stack=100)


class Shapes(unittest.TestCase, Looks):
    def test_of_a_letter_without_a_program(self):
        shape = Size(font_with(letters=[("a", Letter(OUTLINE))], em=128), 1).letter("a")
        self.assertIsInstance(shape, Shape)
        self.assertEqual(shape.places(), [(0, 0), (50, 0), (0, 50), ((7, 2), (7, 2)), ((9, 2), (7, 2)),
                                          ((9, 2), (9, 2)), ((7, 2), (9, 2))])
        self.assertEqual(shape.ends(), [2, 6])
        self.assertEqual(shape.truths(), [True, False, True, True, True, True, False])
        self.assertEqual(shape.touched(), [(False, False)] * 7)
        self.assertEqual(len(shape), 7)

    def test_of_a_letter_with_a_program(self):
        program = Program([("push", 3), ("settle",), ("way", 0, 1), ("push", 3), ("settle",), ("push", 4), ("settle",)])
        shape = Size(font_with(letters=[("a", Letter(OUTLINE, program=program))], em=128), 1).letter(name="a")
        self.assertEqual(shape.places()[3:], [(0, 0), ((9, 2), 0), ((9, 2), (9, 2)), ((7, 2), (9, 2))])
        self.assertEqual(shape.touched()[3:], [(True, True), (False, True), (False, False), (False, False)])
        self.assertEqual(shape.truths(), OUTLINE.truths())
        self.assertEqual(shape.ends(), OUTLINE.ends())

    def test_a_program_finds_what_the_first_one_made(self):
        first = keeping(77, 2, [("push", 50), ("push", 0), ("setworth",), ("push", -3), ("push", 0), ("put",)])
        program = Program([("push", 2), ("load",), ("push", 0), ("worth",), ("plus",), ("push", 0), ("swap",),
                           ("shift",), ("push", 1), ("push", -3), ("place",), ("shift",)])
        font = font_with(first, [1], [("a", Letter(Outline([ROUND]), program=program))])
        self.assertEqual(Size(font, 1).letter("a").places(), [(127, 0), (164, 0), (0, 100)])

    def test_what_one_program_keeps_no_other_one_finds(self):
        program = Program([("push", 0), ("load",), ("push", 1), ("plus",), ("copy",), ("push", 0), ("keep",),
                           ("push", 0), ("swap",), ("shift",), ("push", 0), ("worth",), ("push", 1), ("plus",),
                           ("copy",), ("push", 0), ("setworth",), ("push", 1), ("swap",), ("shift",),
                           ("push", -1), ("push", 1), ("shift",), ("push", -1), ("place",), ("push", 2), ("swap",),
                           ("shift",)])
        rows = [("a", Letter(Outline([ROUND]), program=program)), ("b", Letter(Outline([ROUND]), program=program)),
                ("c", Made([("a", 0, 0), ("b", 0, 0), ("a", 0, 0)], program=program))]
        size = Size(font_with(worths=[0], letters=rows), 1)
        once = [(1, 0), (101, 0), (1, 100)]
        for name in ("a", "b", "a"):
            self.assertEqual(size.letter(name).places(), once)
        self.assertEqual(size.letter("c").places(), [(2, 0), (102, 0), (2, 100)] + once + once)
        self.assertEqual((size.store(), size.worths(), size.made_up()), ([0] * 8, [0], FOUR_NOUGHTS))

    def test_of_parts(self):
        settle = Program([("push", 0), ("push", 3), ("shift",)])
        rows = [("a", Letter(Outline([ROUND]), program=settle)), ("b", Letter(Outline([OTHER]))),
                ("c", Made([("b", 1, 2), ("a", -10, 20), ("b", 1, 2)])), ("d", Made([("c", 100, 200)], program=settle))]
        size = Size(font_with(letters=rows, em=128), 1)
        self.assertEqual(size.letter("a").places(), [(3, 0), (50, 0), (0, 50)])
        self.assertEqual(size.letter("a").touched()[0], (True, False))
        moved_b = [(4, (9, 2)), (5, (9, 2)), (5, (11, 2)), (4, (11, 2))]
        moved_a = [(-2, 10), (45, 10), (-5, 60)]
        made = size.letter("c")
        self.assertEqual(made.places(), moved_b + moved_a + moved_b)
        self.assertEqual(made.ends(), [3, 6, 10])
        self.assertEqual(made.truths(), [True, True, True, False, True, False, True, True, True, True, False])
        self.assertEqual(made.touched(), [(False, False)] * 11)
        outer = size.letter("d")
        self.assertEqual(outer.places()[0], (57, (209, 2)))
        self.assertEqual(outer.places()[4], (48, 110))
        self.assertEqual(outer.touched(), [(True, False)] + [(False, False)] * 10)

    def test_points_of_parts_lie_at_first_where_they_lie_in_the_part(self):
        there = Program([("push", 0), ("push", 9), ("shift",)])
        was = Program([("push", 0), ("push", 0), ("was",), ("shift",)])
        rows = [("a", Letter(Outline([ROUND]), program=there)), ("b", Made([("a", 5, 0)], program=was))]
        self.assertEqual(Size(font_with(letters=rows), 1).letter("b").places()[0], (28, 0))

    def test_equal_ones(self):
        def shape(points, program=None, size=1):
            return Size(font_with(letters=[("a", Letter(Outline([points]), program=program))]), size).letter("a")
        one = shape(ROUND)
        self.assertTrue(one == shape(ROUND))
        self.assertFalse(one != shape(ROUND))
        self.assertFalse(one == shape(ROUND, size=2))
        self.assertFalse(one == shape([(0, 0, True), (100, 0, True), (0, 100, True)]))
        self.assertFalse(one == shape(ROUND, Program([("push", 0), ("push", 0), ("shift",)])))
        six = Size(font_with(letters=[("a", Letter(Outline([ROUND, ROUND])))]), 1).letter("a")
        joined = Size(font_with(letters=[("a", Letter(Outline([ROUND + ROUND])))]), 1).letter("a")
        self.assertFalse(six == joined)
        for thing in no_things() + [one.places()]:
            if not isinstance(thing, Shape):
                self.assertFalse(one == thing)

    def test_lists_are_new_ones(self):
        size = Size(font_with(letters=[("a", Letter(OUTLINE))]), 1)
        shape = size.letter("a")
        for ask in (shape.places, shape.ends, shape.truths, shape.touched):
            self.assertIs(type(ask()), list)
            ask().clear()
        self.assertTrue(shape == size.letter("a"))
        self.assertEqual(len(shape.places()), 7)

    def test_refused_with_no_such_name(self):
        font = font_with(letters=[("a", Letter(OUTLINE)), ("b", Letter(OUTLINE)), ("c", Made([("a", 0, 0)]))])
        faulty = font_with(Program([("drop",)]), letters=[("a", Letter(OUTLINE))])
        for thing in no_names_of_letters():
            self.refused(NoSuch, thing, Size(font, 1).letter, thing)
            self.refused(NoSuch, thing, Size(faulty, 1).letter, thing)

    def test_refused_with_the_own_fault(self):
        bad = Program([("push", 1), ("drop",), ("swap",)])
        rows = [("a", Letter(OUTLINE, program=bad)), ("b", Letter(OUTLINE)), ("c", Made([("a", 0, 0)])),
                ("d", Made([("b", 0, 0)]))]
        size = Size(font_with(Program([("push", 1), ("over",)]), letters=rows), 1)
        for name in "abcd":
            self.refused_at(Fault, {"done": 1, "why": "lack"}, size.letter, name)
        self.assertEqual(size.fault(), (1, "lack"))

    def test_refused_with_the_fault_of_the_first_part(self):
        def failing(many):
            return Program([("push", 1), ("drop",)] * many + [("drop",)])
        one = Outline([ROUND])
        rows = [("a", Letter(one, program=failing(1))), ("b", Letter(one, program=failing(2))), ("c", Letter(one)),
                ("d", Made([("c", 0, 0), ("b", 0, 0), ("a", 0, 0)], program=failing(3))),
                ("e", Made([("c", 0, 0)], program=failing(4))), ("f", Made([("e", 0, 0), ("a", 0, 0)])),
                ("g", Made([("b", 0, 0)], program=failing(5))), ("h", Made([("c", 0, 0), ("g", 0, 0), ("a", 0, 0)]))]
        size = Size(font_with(letters=rows), 1)
        for name, done in (("a", 2), ("b", 4), ("d", 4), ("e", 8), ("f", 8), ("g", 4), ("h", 4)):
            self.refused_at(Fault, {"done": done, "why": "lack"}, size.letter, name)
        self.assertEqual(size.letter("c").places(), [(0, 0), (100, 0), (0, 100)])

    def test_stack_and_budget_hold_for_letters(self):
        program = Program([("push", 1)] * 3)
        font = font_with(letters=[("a", Letter(OUTLINE, program=program))])
        self.assertEqual(len(Size(font, 1, stack=3, budget=3).letter("a")), 7)
        self.refused_at(Fault, {"done": 2, "why": "full"}, Size(font, 1, stack=2).letter, "a")
        self.refused_at(Fault, {"done": 2, "why": "budget"}, Size(font, 1, budget=2).letter, "a")

    def test_many_parts_within_parts(self):
        rows = [("a", Letter(Outline([ROUND]), program=Program([("push", 0), ("push", 1), ("shift",)])))]
        names = "abcdefghijklmnopqrstuvwx"
        for ahead, name in zip(names, names[1:]):
            rows.append((name, Made([(ahead, 1, 0)], program=Program([("push", 0), ("push", 1), ("shift",)]))))
        self.assertEqual(Size(font_with(letters=rows), 1).letter("x").places(), [(47, 0), (123, 0), (23, 100)])


class Random(unittest.TestCase, Looks):
    def test_as_the_model_tells(self):
        ends = {"shape": 0, "fault": 0, "refused": 0}
        for seed in range(200):
            maker = FontMaker(seed)
            font = maker.font()
            number = maker.chance.choice([1, 2, 12, 31, 199, 200])
            limits = {"stack": maker.chance.choice([3, 24]), "budget": maker.chance.choice([12, 400])}
            size = Size(font, number, **limits)
            model = SizeModel(font, number, **limits)
            self.assertEqual((size.store(), size.worths(), size.made_up(), size.fault()), model.told())
            ends["fault"] += size.fault() is not None
            names = font.names()
            maker.chance.shuffle(names)
            for name in names:
                try:
                    wanted = model.told_shape(name)
                except Stop as stop:
                    self.refused_at(Fault, dict(zip(("done", "why"), stop.args)), size.letter, name)
                    ends["refused"] += 1
                    continue
                shape = size.letter(name)
                self.assertEqual((shape.places(), shape.ends(), shape.truths(), shape.touched()), wanted)
                self.assertEqual(len(shape), len(wanted[0]))
                ends["shape"] += 1
        self.assertGreater(min(ends.values()), 10, ends)


if __name__ == "__main__":
    unittest.main()
