"""Sessions: points 74 and 75."""

import random
import unittest

from hintedpoints.errors import Fault, NoFont, NoLimit, NoSize, NoSuch
from hintedpoints.fonts import Font, Letter, Made
from hintedpoints.outlines import Outline
from hintedpoints.programs import Program
from hintedpoints.sessions import Session
from hintedpoints.sizes import Shape, Size
from tests.helpers import MOST, Looks, no_numbers, no_things
from tests.makers import FontMaker
from tests.test_sizes import no_fonts, no_names_of_letters, no_sizes

ROUND = [(0, 0, True), (100, 0, False), (0, 100, True)]
BAD = Program([("push", 1), ("over",)])


def font(first=None):
    """A font of letters, of which `c` hangs on `a` and `b`, `d` on `c` and `a`; `e` is refused, and so `f` is."""
    outline = Outline([ROUND])
    return Font(64, first=first, letters=[
        ("a", Letter(outline)), ("b", Letter(outline)), ("c", Made([("a", 1, 0), ("b", 2, 0)])),
        ("d", Made([("c", 0, 0), ("a", 0, 0)])), ("e", Letter(outline, program=BAD)),
        ("f", Made([("b", 0, 0), ("e", 0, 0), ("a", 0, 0)]))])


def rows(text, size=1):
    """Rows of a log that are written shortly: `<a` for `in`, `>a` for `out`, `=a` for `kept`."""
    words = {"<": "in", ">": "out", "=": "kept"}
    return [(words[each[0]], each[1:], size) for each in text.split()]


class Sessions(unittest.TestCase, Looks):
    def test_it_tells_shapes_as_sizes_do(self):
        told = Session(font())
        for size in (1, 12, 200, 1):
            for name in "abcd":
                self.assertEqual(told.letter(name, size=size), Size(font(), size).letter(name))
                self.assertIsInstance(told.letter(size=size, name=name), Shape)
            self.assertRaises(Fault, told.letter, "e", size=size)

    def test_stack_and_budget(self):
        program = Program([("push", 1)] * 3)
        letters = [("a", Letter(Outline([ROUND]), program=program))]
        for kind in ({"letters": letters}, {"first": program, "letters": letters}):
            self.assertEqual(len(Session(Font(64, **kind), stack=3, budget=3).letter("a", size=1)), 3)
            for limits, why in (({"stack": 2}, "full"), ({"budget": 2}, "budget"),
                                ({"budget": 2, "stack": 2}, "budget")):
                self.refused_at(Fault, {"done": 2, "why": why}, Session(Font(64, **kind), **limits).letter, "a", size=1)
        many = Program([("push", 1)] * 25)
        self.refused_at(Fault, {"done": 24, "why": "full"}, Session(Font(64, first=many, letters=letters)).letter, "a",
                        size=1)

    def test_refused(self):
        for thing in no_fonts():
            self.refused(NoFont, thing, Session, thing)
            self.refused(NoFont, thing, Session, thing, budget=None, stack=None, keep=None)
        for thing in no_numbers() + [0, -1, 9, (3, 2), MOST, "3"]:
            self.refused(NoLimit, thing, Session, font(), keep=thing)
            self.refused(NoLimit, thing, Session, font(), budget=None, stack=None, keep=thing)
        for thing in no_numbers() + [0, 101, (3, 2), MOST]:
            self.refused(NoLimit, thing, Session, font(), stack=thing)
            self.refused(NoLimit, thing, Session, font(), budget=None, stack=thing)
        for thing in no_numbers() + [0, 401, (3, 2), MOST]:
            self.refused(NoLimit, thing, Session, font(), budget=thing)
        for keep in (1, 8):
            self.assertEqual(Session(font=font(), budget=400, stack=100, keep=keep).kept(), [])

    def test_kept_sizes(self):
        told = Session(font())
        self.assertEqual(told.kept(), [])
        for size, kept in ((5, [5]), (1, [5, 1]), (7, [5, 1, 7]), (5, [1, 7, 5]), (9, [7, 5, 9]), (9, [7, 5, 9]),
                           (7, [5, 9, 7]), (1, [9, 7, 1])):
            told.letter("a", size=size)
            self.assertEqual(told.kept(), kept)
        told.kept().append(3)
        self.assertEqual(told.kept(), [9, 7, 1])
        self.assertIs(type(told.kept()), list)

    def test_as_many_are_kept_as_told(self):
        for keep in range(1, 9):
            told = Session(font(), keep=keep)
            asked = list(range(20, 31)) + [25, 30, 20]
            for size in asked:
                told.letter("b", size=size)
            last = [size for at, size in enumerate(asked) if size not in asked[at + 1:]]
            self.assertEqual(told.kept(), last[-keep:])

    def test_with_a_size_go_its_shapes(self):
        told = Session(font(), keep=1)
        told.letter("a", size=1)
        told.letter("a", size=1)
        told.letter("a", size=2)
        told.letter("a", size=1)
        self.assertEqual(told.log(), rows("<a >a =a") + rows("<a >a", 2) + rows("<a >a"))

    def test_what_is_refused_with_a_name_or_a_size_isnt_asked(self):
        told = Session(font(), keep=2)
        told.letter("a", size=1)
        told.letter("a", size=2)
        told.cleared()
        for thing in no_names_of_letters():
            self.refused(NoSuch, thing, told.letter, thing, size=1)
            self.refused(NoSuch, thing, told.letter, thing, size=3)
            self.refused(NoSuch, thing, told.letter, thing, size=None)
        for thing in no_sizes():
            self.refused(NoSize, thing, told.letter, "a", size=thing)
        self.assertEqual((told.kept(), told.log()), ([1, 2], []))

    def test_what_is_refused_with_a_fault_is_asked(self):
        told = Session(font(), keep=2)
        told.letter("a", size=1)
        told.letter("a", size=2)
        self.refused_at(Fault, {"done": 1, "why": "lack"}, told.letter, "e", size=1)
        self.assertEqual(told.kept(), [2, 1])
        self.refused_at(Fault, {"done": 1, "why": "lack"}, told.letter, "e", size=3)
        self.assertEqual(told.kept(), [1, 3])

    def test_shapes_of_several(self):
        told = Session(font())
        for names in (["a", "c", "a"], ("a", "c", "a")):
            shapes = told.shapes(names, size=2)
            self.assertIs(type(shapes), list)
            self.assertEqual(shapes, [Size(font(), 2).letter(name) for name in names])
        self.assertEqual(told.log(), rows("<a >a <c =a <b >b >c =a =a =c =a", 2))
        self.assertEqual(told.kept(), [2])

    def test_of_no_names_nothing_is_asked(self):
        told = Session(font())
        for names in ([], ()):
            self.assertEqual(told.shapes(names, size=1), [])
            self.refused(NoSize, None, told.shapes, names, size=None)
        self.assertEqual((told.kept(), told.log()), ([], []))

    def test_of_four_hundred_names(self):
        told = Session(font())
        self.assertEqual(len(told.shapes(["a"] * 400, size=1)), 400)
        self.assertEqual(told.log(), rows("<a >a" + " =a" * 399))
        many = ["a"] * 401
        self.refused(NoSuch, many, told.shapes, many, size=1)
        self.assertEqual(told.cleared(), 401)

    def test_shapes_up_to_the_first_one_that_is_refused(self):
        told = Session(font())
        self.refused_at(Fault, {"done": 1, "why": "lack"}, told.shapes, ["a", "f", "b", "c"], size=1)
        self.assertEqual(told.log(), rows("<a >a <f <b >b <e >e >f"))
        self.assertEqual(told.kept(), [1])
        self.assertEqual(told.at_work(), 0)

    def test_refused_names(self):
        told = Session(font())
        for thing in [None, True, False, 0, 1, "", "a", "abc", {}, {"a": 1}, ["a"] * 401, ("a",) * 401] + [
                thing for thing in no_things() if not isinstance(thing, (list, tuple))]:
            self.refused(NoSuch, thing, told.shapes, thing, size=1)
            self.refused(NoSuch, thing, told.shapes, size=None, names=thing)
        for thing in no_names_of_letters():
            self.refused(NoSuch, thing, told.shapes, ["a", thing, None], size=1)
            self.refused(NoSuch, thing, told.shapes, (thing, "a"), size=None)
        for thing in no_sizes():
            self.refused(NoSize, thing, told.shapes, ["a"], size=thing)
            self.refused(NoSize, thing, told.shapes, ["e", "a"], size=thing)
        self.assertEqual((told.kept(), told.log()), ([], []))

    def test_sizes_let_go(self):
        told = Session(font())
        self.assertEqual(told.forget(), 0)
        told.shapes(["a"], size=1)
        told.shapes(["a"], size=2)
        told.shapes(["a"], size=3)
        self.assertEqual(told.forget(size=2), 1)
        self.assertEqual(told.kept(), [1, 3])
        self.refused(NoSize, 2, told.forget, size=2)
        for thing in [thing for thing in no_sizes() if thing is not None] + [4, 200]:
            self.refused(NoSize, thing, told.forget, size=thing)
        self.assertEqual(told.kept(), [1, 3])
        told.cleared()
        told.letter("a", size=3)
        told.letter("a", size=2)
        self.assertEqual(told.log(), rows("=a", 3) + rows("<a >a", 2))
        self.assertEqual(told.forget(size=None), 3)
        self.assertEqual(told.kept(), [])
        self.assertEqual(told.forget(), 0)
        told.cleared()
        told.letter("a", size=3)
        self.assertEqual(told.log(), rows("<a >a", 3))

    def test_one_and_true_are_not_the_same_size(self):
        told = Session(font())
        told.letter("a", size=1)
        self.refused(NoSize, True, told.forget, size=True)
        self.assertEqual(told.kept(), [1])


class Logs(unittest.TestCase, Looks):
    def test_rows_of_parts(self):
        told = Session(font())
        told.letter("d", size=1)
        self.assertEqual(told.log(), rows("<d <c <a >a <b >b >c =a >d"))
        told.letter("d", size=1)
        told.letter("c", size=1)
        self.assertEqual(told.log()[9:], rows("=d =c"))
        self.assertEqual([type(row) for row in told.log()], [tuple] * 11)

    def test_it_is_cleared(self):
        told = Session(font())
        self.assertEqual(told.cleared(), 0)
        told.letter("c", size=1)
        told.log().clear()
        self.assertEqual(told.cleared(), 6)
        self.assertEqual(told.log(), [])
        self.assertEqual(told.cleared(), 0)
        told.letter("c", size=1)
        self.assertEqual(told.log(), rows("=c"))

    def test_up_to_the_first_part_that_is_refused(self):
        told = Session(font())
        for _ in range(2):
            self.assertRaises(Fault, told.letter, "f", size=1)
        self.assertEqual(told.log(), rows("<f <b >b <e >e >f <f =b <e >e >f"))
        self.assertEqual(told.at_work(), 0)

    def test_a_letter_refused_by_its_own_program(self):
        outline = Outline([ROUND])
        told = Session(Font(64, letters=[("a", Letter(outline)), ("b", Made([("a", 0, 0), ("a", 1, 1)], program=BAD))]))
        for _ in range(2):
            self.assertRaises(Fault, told.letter, "b", size=1)
        self.assertEqual(told.log(), rows("<b <a >a =a >b <b =a =a >b"))

    def test_where_the_size_has_a_fault(self):
        told = Session(font(Program([("drop",)])))
        for name in ("d", "a", "d"):
            self.refused_at(Fault, {"done": 0, "why": "lack"}, told.letter, name, size=4)
        self.assertEqual(told.log(), rows("<d >d <a >a <d >d", 4))
        self.assertEqual(told.kept(), [4])
        self.refused_at(Fault, {"done": 0, "why": "lack"}, told.shapes, ["c", "a"], size=4)
        self.assertEqual(told.log()[6:], rows("<c >c", 4))
        self.assertEqual(told.at_work(), 0)

    def test_two_sessions_have_nothing_in_common(self):
        one_font = font()
        one, other = Session(one_font), Session(one_font)
        one.letter("a", size=1)
        self.assertEqual((other.log(), other.kept()), ([], []))
        other.letter("a", size=1)
        self.assertEqual(one.log(), other.log())
        other.forget()
        self.assertEqual(one.kept(), [1])


class SessionModel:
    """What a session is to keep and to put into its log, told by its rows alone."""

    def __init__(self, told_font, keep):
        self.font, self.keep, self.kept, self.rows = told_font, keep, {}, []

    def ask(self, name, size):
        """Tells whether a shape is told."""
        if size not in self.kept and len(self.kept) == self.keep:
            self.kept.pop(next(iter(self.kept)))
        self.kept[size] = self.kept.pop(size, {})
        return self.tell(name, size, self.kept[size])

    def tell(self, name, size, shapes):
        if name in shapes:
            self.rows.append(("kept", name, size))
            return True
        self.rows.append(("in", name, size))
        told = Size(self.font, size).fault() is None
        for part, _, _ in self.font.letter(name).parts() if told else ():
            told = told and self.tell(part, size, shapes)
        told = told and self.is_told(name, size)
        if told:
            shapes[name] = True
        self.rows.append(("out", name, size))
        return told

    def is_told(self, name, size):
        try:
            Size(self.font, size).letter(name)
        except Fault:
            return False
        return True


class Random(unittest.TestCase):
    def test_in_whatever_order_sizes_and_letters_are_asked(self):
        refused = 0
        for seed in range(40):
            chance = random.Random(seed)
            told_font = FontMaker(seed).font(6)
            keep = chance.randint(1, 4)
            told, model = Session(told_font, keep=keep), SessionModel(told_font, keep)
            for _ in range(40):
                name, size = chance.choice(told_font.names()), chance.choice([1, 2, 3, 12, 50, 200])
                if model.ask(name, size):
                    self.assertEqual(told.letter(name, size=size), Size(told_font, size).letter(name))
                else:
                    self.assertRaises(Fault, told.letter, name, size=size)
                    refused += 1
                self.assertEqual((told.kept(), told.at_work()), (list(model.kept), 0))
            self.assertEqual(told.log(), model.rows)
        self.assertGreater(refused, 50)
        self.assertLess(refused, 1200)


if __name__ == "__main__":
    unittest.main()
