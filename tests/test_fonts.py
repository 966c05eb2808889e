"""Fonts: points 44 and 45."""

import unittest

from hintedpoints.errors import NoDefinition, NoFont, NoLetter, NoName, NoNumber, NoProgram, NoSuch, NoWorths, TooMany
from hintedpoints.fonts import Font, Letter, Made
from hintedpoints.outlines import Outline
from hintedpoints.programs import Program
from tests.helpers import MOST, Looks, no_numbers, no_things, objects
from tests.test_letters import no_programs

ROUND = [(0, 0, True), (9, 0, True), (0, 9, False)]
ONE = Letter(Outline([ROUND]))
TWO = Letter(Outline([ROUND] * 2))
FOUR = Letter(Outline([ROUND] * 4))
PLAIN = Program([("size",), ("drop",)])


def calling(*names):
    """A program that calls these."""
    return Program([("call", name) for name in names], names=names)


def many_names(many):
    """So many names, all unlike."""
    return [chr(97 + at % 26) * (1 + at // 26) for at in range(many)]


def rows():
    """Letters of a font: some are made of others."""
    return [("a", ONE), ("b", TWO), ("c", Made([("a", 1, 2), ("b", 3, 4)])), ("d", Made([("c", 10, -20)])),
            ("e", Letter(Outline([ROUND]), program=calling("x"))), ("f", Made([("a", 0, 0), ("e", 5, 5), ("a", 7, 7)]))]


def font():
    """A font with all kinds of things."""
    return Font(1000, worths=[80, -99999, 99999], definitions=[("x", PLAIN), ("y", calling("x"))],
                first=calling("y", "x"), letters=rows())


def no_names():
    """Things that are no names."""
    return no_things() + ["A", "abcdefghi", "a b", "a1", 1, (1, 2), ("a",), ["a"]]


def no_lists(most):
    """Things that are no lists of at most so many things."""
    return [None, True, False, 0, 1, "", "a", {}, {"a": ONE}, [("a", ONE)] * (most + 1), [None] * (most + 1),
            (1,) * (most + 1)] + objects()


def no_rows():
    """Things that are no tuples of two."""
    return [None, True, 0, "a", "ab", [], ["a", PLAIN], ["a", ONE], {}, {"a": 1, "b": 2}, (), ("a",), ("a", PLAIN, 1),
            ("a", ONE, 1)] + objects()


class Fonts(unittest.TestCase, Looks):
    def test_it_tells_what_it_has(self):
        told = font()
        self.assertEqual(told.em(), 1000)
        self.assertEqual(told.worths(), [80, -99999, 99999])
        self.assertEqual(told.definitions(), {"x": PLAIN, "y": calling("x")})
        self.assertEqual(list(told.definitions()), ["x", "y"])
        self.assertEqual(told.first(), calling("y", "x"))
        self.assertEqual(told.names(), ["a", "b", "c", "d", "e", "f"])
        self.assertEqual(len(told), 6)
        for name, letter in rows():
            self.assertEqual(told.letter(name), letter)
            self.assertEqual(told.letter(name=name), letter)
        self.assertIs(type(told.letter("c")), Made)

    def test_where_nothing_is_told_there_is_none(self):
        for told in (Font(16), Font(em=16, letters=(), first=None, definitions=[], worths=())):
            self.assertEqual((told.em(), told.worths(), told.definitions(), told.first(), told.names(), len(told)),
                             (16, [], {}, None, [], 0))

    def test_names_keep_their_order(self):
        letters = [(name, ONE) for name in ("z", "b", "y", "a")]
        definitions = [(name, PLAIN) for name in ("q", "c", "p", "b")]
        told = Font(16, letters=tuple(letters), definitions=tuple(definitions))
        self.assertEqual(told.names(), ["z", "b", "y", "a"])
        self.assertEqual(list(told.definitions()), ["q", "c", "p", "b"])
        # A letter and a definition may have one name.
        self.assertEqual(told.letter("b"), ONE)

    def test_bounds_are_counted(self):
        names = many_names(25)
        for em in (16, 17, 4095, 4096):
            self.assertEqual(Font(em).em(), em)
        self.assertEqual(len(Font(16, worths=[5] * 12).worths()), 12)
        self.assertEqual(len(Font(16, definitions=[(name, PLAIN) for name in names[:8]]).definitions()), 8)
        self.assertEqual(len(Font(16, letters=[(name, ONE) for name in names[:24]])), 24)
        for thing in ([5] * 13, (5,) * 13):
            self.refused(NoWorths, thing, Font, 16, worths=thing)
        thing = [(name, PLAIN) for name in names[:9]]
        self.refused(NoFont, thing, Font, 16, definitions=thing)
        thing = [(name, ONE) for name in names]
        self.refused(NoFont, thing, Font, 16, letters=thing)

    def test_it_keeps_copies_and_tells_new_lists(self):
        worths, definitions, letters = [1, 2], [("x", PLAIN)], [("a", ONE)]
        told = Font(16, worths=worths, definitions=definitions, letters=letters)
        worths.append(3)
        definitions.clear()
        letters.append(("b", ONE))
        told.worths().clear()
        told.definitions()["z"] = PLAIN
        told.names().append("z")
        told.leaves("a").clear()
        told.hangs_on("a").append("z")
        self.assertEqual((told.worths(), told.definitions(), told.names()), ([1, 2], {"x": PLAIN}, ["a"]))
        self.assertEqual((told.leaves("a"), told.hangs_on("a"), len(told)), ([("a", 0, 0)], [], 1))

    def test_leaves(self):
        told = font()
        self.assertEqual(told.leaves("a"), [("a", 0, 0)])
        self.assertEqual(told.leaves(name="c"), [("a", 1, 2), ("b", 3, 4)])
        self.assertEqual(told.leaves("d"), [("a", 11, -18), ("b", 13, -16)])
        self.assertEqual(told.leaves("f"), [("a", 0, 0), ("e", 5, 5), ("a", 7, 7)])
        chain = [("a", ONE)]
        names = many_names(24)
        for ahead, name in zip(names, names[1:]):
            chain.append((name, Made([(ahead, 99999, -1)])))
        self.assertEqual(Font(16, letters=chain).leaves(names[-1]), [("a", 23 * 99999, -23)])

    def test_leaves_of_parts_of_parts_that_stand_there_twice(self):
        letters = [("a", ONE), ("b", Made([("a", 1, 0), ("a", 0, 1)])), ("c", Made([("b", 10, 10), ("b", -10, 5)]))]
        told = Font(16, letters=letters)
        self.assertEqual(told.leaves("c"), [("a", 11, 10), ("a", 10, 11), ("a", -9, 5), ("a", -10, 6)])
        self.assertEqual(told.hangs_on("c"), ["a", "b"])

    def test_what_it_hangs_on(self):
        told = font()
        self.assertEqual([told.hangs_on(name) for name in told.names()],
                         [[], [], ["a", "b"], ["a", "b", "c"], [], ["a", "e"]])
        letters = [("z", ONE), ("y", ONE), ("x", Made([("y", 0, 0)])), ("w", Made([("x", 0, 0), ("z", 0, 0)])),
                   ("v", ONE)]
        self.assertEqual(Font(16, letters=letters).hangs_on(name="w"), ["z", "y", "x"])

    def test_refused_is_what_is_no_name_of_a_letter(self):
        told = font()
        for thing in no_names() + ["z", "x", "aa", "abc"]:
            self.refused(NoSuch, thing, told.letter, thing)
            self.refused(NoSuch, thing, told.leaves, thing)
            self.refused(NoSuch, thing, told.hangs_on, thing)
            self.refused(NoSuch, thing, told.replaced, thing, None)
            self.refused(NoSuch, thing, Font(16).letter, thing)


class Replaced(unittest.TestCase, Looks):
    def test_all_else_is_as_it_is(self):
        told = font()
        other = told.replaced("b", ONE)
        wanted = rows()
        wanted[1] = ("b", ONE)
        self.assertEqual(other, Font(1000, worths=told.worths(), definitions=list(told.definitions().items()),
                                     first=told.first(), letters=wanted))
        self.assertEqual(told, font())
        self.assertEqual(other.names(), told.names())
        self.assertEqual(other.replaced(letter=TWO, name="b"), told)
        self.assertEqual(told.replaced("d", Made([("a", 0, 0)])).leaves("d"), [("a", 0, 0)])
        self.assertEqual(told.replaced("c", ONE).leaves("d"), [("c", 10, -20)])

    def test_refused_as_such_a_font_would_be(self):
        told = font()
        for thing in no_things() + [1, ("b", ONE), Outline([ROUND])]:
            if not isinstance(thing, Letter):
                self.refused(NoLetter, thing, told.replaced, "b", thing)
        self.refused_at(NoDefinition, {"found": "q"}, told.replaced, "b", Letter(TWO.outline(),
                                                                                  program=calling("x", "q")))
        self.refused_at(NoSuch, {"found": "b"}, told.replaced, "b", Made([("a", 0, 0), ("b", 0, 0)]))
        self.refused_at(NoSuch, {"found": "c"}, told.replaced, "b", Made([("a", 0, 0), ("c", 0, 0)]))
        self.refused_at(TooMany, {"many": 8}, told.replaced, "f", Made([("a", 0, 0), ("b", 0, 0), ("b", 0, 0),
                                                                        ("c", 0, 0)]))

    def test_refused_for_what_is_made_of_it(self):
        told = font()
        self.refused_at(TooMany, {"many": 5}, told.replaced, "b", FOUR)
        self.refused_at(TooMany, {"many": 6}, told.replaced, "a", FOUR)
        self.refused_at(TooMany, {"many": 6}, told.replaced, "e", Made([("a", 0, 0), ("a", 0, 0)] * 2))
        self.assertEqual(len(told.replaced("b", Letter(Outline([ROUND] * 3)))), 6)


class Equal(unittest.TestCase):
    def test_equal_is_what_has_the_same(self):
        self.assertTrue(font() == font())
        self.assertFalse(font() != font())
        self.assertTrue(Font(16, worths=[1], letters=(("a", ONE),)) == Font(16, worths=(1,), letters=[("a", ONE)]))

    def test_other_ones_are_not(self):
        x, y = ("x", PLAIN), ("y", PLAIN)
        a, b = ("a", ONE), ("b", ONE)
        fonts = [Font(16), Font(17), Font(16, worths=[1]), Font(16, worths=[1, 1]), Font(16, worths=[2]),
                 Font(16, definitions=[x]), Font(16, definitions=[x, y]), Font(16, definitions=[y, x]),
                 Font(16, definitions=[("x", Program([]))]), Font(16, first=PLAIN), Font(16, first=Program([])),
                 Font(16, letters=[a]), Font(16, letters=[a, b]), Font(16, letters=[b, a]), Font(16, letters=[b]),
                 Font(16, letters=[("a", TWO)]), Font(16, letters=[a, ("b", Made([("a", 0, 0)]))]), font()]
        for at, one in enumerate(fonts):
            for other_at, other in enumerate(fonts):
                self.assertIs(one == other, at == other_at, (at, other_at))
                self.assertIs(one != other, at != other_at)

    def test_nothing_else_is(self):
        for thing in no_things() + [16, {"em": 64}, "font 64"]:
            if not isinstance(thing, Font):
                self.assertIs(Font(64) == thing, False)
                self.assertIs(thing == Font(64), False)


class Refused(unittest.TestCase, Looks):
    def test_the_em(self):
        for thing in no_numbers() + [0, 15, -16, 4097, (33, 2), MOST]:
            self.refused(NoNumber, thing, Font, thing)
            self.refused(NoNumber, thing, Font, letters=1, first=1, definitions=1, worths=1, em=thing)

    def test_then_the_worths(self):
        for thing in no_lists(12):
            self.refused(NoWorths, thing, Font, 16, definitions=1, worths=thing, letters=1)
        for thing in no_numbers() + [(1, 2), 100000, -100000, MOST]:
            self.refused(NoNumber, thing, Font, 16, worths=[5, thing, None], definitions=1)
            self.refused(NoNumber, thing, Font, 16, worths=(thing,), first=1)

    def test_then_the_definitions(self):
        for thing in no_lists(8):
            self.refused(NoFont, thing, Font, 16, letters=1, first=1, definitions=thing)
        for thing in no_rows():
            self.refused(NoFont, thing, Font, 16, first=1, definitions=[thing])
            self.refused(NoFont, thing, Font, 16, letters=1, definitions=(("x", PLAIN), thing, None))
        for thing in no_names():
            self.refused(NoName, thing, Font, 16, first=1, definitions=[("x", PLAIN), (thing, None)])
        self.refused(NoName, "x", Font, 16, first=1, definitions=[("x", PLAIN), ("y", PLAIN), ("x", None)])
        for thing in no_programs() + [None]:
            self.refused(NoProgram, thing, Font, 16, first=1, definitions=[("x", PLAIN), ("y", thing), None])
        for name, calls, missing in [("x", ("x",), "x"), ("x", ("y",), "y"), ("y", ("x", "q", "z"), "q"),
                                     ("y", ("y", "x"), "y")]:
            definitions = [("x", PLAIN)] * (name == "y") + [(name, calling(*calls)), ("q", 1)]
            self.refused(NoDefinition, missing, Font, 16, letters=1, first=1, definitions=definitions)

    def test_definitions_row_by_row(self):
        self.refused(NoProgram, 1, Font, 16, definitions=[("x", 1), ("x", PLAIN)])
        self.refused(NoDefinition, "q", Font, 16, definitions=[("x", calling("q")), ("Y", 1), 5])
        self.refused(NoName, "Y", Font, 16, definitions=[("Y", 1), ("x", calling("q"))])
        self.refused(NoFont, 5, Font, 16, definitions=[5, ("Y", 1)])

    def test_then_the_first_program(self):
        for thing in no_programs():
            self.refused(NoProgram, thing, Font, 16, letters=1, first=thing)
        self.refused(NoDefinition, "z", Font, 16, letters=1, definitions=[("x", PLAIN)], first=calling("x", "z", "q"))
        self.refused(NoDefinition, "x", Font, 16, letters=1, first=calling("x"))

    def test_then_the_letters(self):
        for thing in no_lists(24):
            self.refused(NoFont, thing, Font, 16, letters=thing)
        for thing in no_rows():
            self.refused(NoFont, thing, Font, 16, letters=[thing])
            self.refused(NoFont, thing, Font, 16, letters=(("a", ONE), thing, None))
        for thing in no_names():
            self.refused(NoName, thing, Font, 16, letters=[("a", ONE), (thing, None)])
        self.refused(NoName, "a", Font, 16, letters=[("a", ONE), ("b", ONE), ("a", None)])
        for thing in no_things() + [1, Outline([ROUND]), PLAIN]:
            if not isinstance(thing, Letter):
                self.refused(NoLetter, thing, Font, 16, letters=[("a", ONE), ("b", thing), None])

    def test_then_what_a_letter_calls_and_is_made_of(self):
        definitions = [("x", PLAIN)]
        for letter in (Letter(ONE.outline(), program=calling("x", "q", "z")),
                       Made([("n", 0, 0)], program=calling("x", "q", "z"))):
            self.refused(NoDefinition, "q", Font, 16, definitions=definitions, letters=[("a", letter), None])
        for letter, missing in [(Made([("a", 0, 0)]), "a"), (Made([("b", 0, 0)]), "b"),
                                (Made([("o", 0, 0), ("q", 0, 0), ("z", 0, 0)]), "q"),
                                (Made([("o", 0, 0), ("z", 0, 0)], program=PLAIN), "z")]:
            self.refused(NoSuch, missing, Font, 16, letters=[("o", FOUR), ("a", letter), ("z", ONE), None])

    def test_then_too_many_rounds(self):
        for parts, many in [(["a", "c"], 5), (["b", "b", "a"], 5), (["c", "c", "c", "c"], 16),
                            (["a", "a", "a", "b"], 5),
                            (["e", "a"], 5)]:
            letters = [("a", ONE), ("b", TWO), ("c", FOUR), ("d", ONE), ("e", Made([("b", 0, 0), ("b", 1, 1)])),
                       ("f", Made([(name, 0, 0) for name in parts])), None]
            self.refused_at(TooMany, {"many": many}, Font, 16, letters=letters)
        letters = [("a", ONE), ("b", TWO), ("c", Made([("a", 0, 0)] * 4)), ("d", Made([("b", 0, 0)] * 2)),
                   ("e", Made([("d", 0, 0)])), ("f", Made([("a", 0, 0), ("b", 0, 0), ("a", 0, 0)]))]
        self.assertEqual(len(Font(16, letters=letters)), 6)

    def test_letters_row_by_row(self):
        self.refused(NoLetter, 1, Font, 16, letters=[("a", 1), ("a", ONE)])
        self.refused(NoName, "A", Font, 16, letters=[("A", 1), 5])
        self.refused_at(TooMany, {"many": 8}, Font, 16, letters=[("a", FOUR), ("b", Made([("a", 0, 0)] * 2)), 5])
        self.refused(NoSuch, "n", Font, 16, letters=[("a", FOUR), ("b", Made([("a", 0, 0)] * 3 + [("n", 0, 0)]))])

    def test_all_but_the_em_by_their_names_alone(self):
        self.assertRaises(TypeError, Font, 16, [])


if __name__ == "__main__":
    unittest.main()
