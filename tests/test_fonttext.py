"""Fonts as texts: points 121 and 122."""

import unittest

from hintedpoints.errors import Deep, NoDefinition, NoFont, NoName, NoNumber, NoOutline, NoParts, NoPoint
from hintedpoints.errors import NoProgram, NoRow, NoSuch, NoText, NoWorths, TooMany
from hintedpoints.fonts import Font, Letter, Made
from hintedpoints.fonttext import read_font, show_font
from hintedpoints.outlines import Outline
from hintedpoints.programs import Program
from tests.helpers import MOST, Looks, no_things
from tests.makers import FontMaker
from tests.test_sizes import no_fonts

ROUND = [(0, 0, True), (64, 0, False), (64, 64, True)]
ONE_ROUND = "round 0 0, 64 0 off, 64 64"
WHOLE = """font 1000
worths 80 -5 0
define x
push 1/2
drop
.
define yy
call x
.
first
.
letter a
round 0 0, 64 0 off, 64 64
round -1 -2, 3 4, 5 -99999 off, 99999 0
program
size
if
repeat 2
rest east
end
else
end
.
letter b
round 0 0, 64 0 off, 64 64
made c
part a 10 -20
part b 0 0
program
call yy
.
made d
part c 1 2"""


def whole():
    """The font that WHOLE writes."""
    first = Outline([ROUND])
    both = Outline([ROUND, [(-1, -2, True), (3, 4, True), (5, -99999, False), (99999, 0, True)]])
    program = Program([("size",), ("if", [("repeat", 2, [("rest", "east")])], [])])
    return Font(1000, worths=[80, -5, 0], first=Program([]),
                definitions=[("x", Program([("push", (1, 2)), ("drop",)])),
                             ("yy", Program([("call", "x")], names=["x"]))],
                letters=[("a", Letter(both, program=program)), ("b", Letter(first)),
                         ("c", Made([("a", 10, -20), ("b", 0, 0)], program=Program([("call", "yy")], names=["yy"]))),
                         ("d", Made([("c", 1, 2)]))])


def text(*rows):
    """A font's text: its first row, and these."""
    return "\n".join(["font 64", *rows])


class Shown(unittest.TestCase, Looks):
    def test_all_kinds_of_rows(self):
        self.assertEqual(show_font(whole()), WHOLE)
        self.assertEqual(read_font(WHOLE), whole())

    def test_no_rows_but_the_first(self):
        self.assertEqual(show_font(Font(64)), "font 64")
        self.assertEqual(read_font("font 64"), Font(64))
        self.assertEqual(read_font(text="font 4096"), Font(4096))
        self.assertEqual(show_font(font=Font(16, worths=[0])), "font 16\nworths 0")

    def test_programs_without_words(self):
        none = Program([])
        font = Font(64, definitions=[("x", none)], first=none, letters=[("a", Letter(Outline([ROUND]), program=none)),
                                                                       ("b", Made([("a", 0, 0)], program=none))])
        wanted = text("define x", ".", "first", ".", "letter a", ONE_ROUND, "program", ".", "made b", "part a 0 0",
                      "program", ".")
        self.assertEqual(show_font(font), wanted)
        self.assertEqual(read_font(wanted), font)
        self.assertEqual(read_font(wanted).letter("a").program(), none)

    def test_refused(self):
        for thing in no_fonts():
            self.refused(NoFont, thing, show_font, thing)

    def test_what_is_written_is_read_as_the_same(self):
        for seed in range(150):
            font = FontMaker(seed).font(6)
            told = show_font(font)
            self.assertEqual(read_font(told), font)
            self.assertEqual(show_font(read_font(told)), told)


class Read(unittest.TestCase, Looks):
    def row(self, at, *rows):
        """Is this row the first one that can't stand?"""
        self.refused_at(NoRow, {"at": at}, read_font, "\n".join(rows))

    def test_refused_is_what_is_no_text(self):
        for thing in no_things() + [1, ["font 64"], ("font 64",)]:
            if not isinstance(thing, str):
                self.refused(NoText, thing, read_font, thing)

    def test_first_rows(self):
        for bad in ("", "font", "font ", " font 64", "font 64 ", "font  64", "font 64 64", "font a", "Font 64",
                    "font 064",
                    "font 1/2", "font 65/2", "font +64", "font 6 4", "64", "worths 1", "letter a", ".", "fonts 64",
                    "font 1" + "0" * 60):
            self.row(0, bad)
            self.row(0, bad, "nothing")

    def test_rows_that_cant_stand(self):
        for bad in ("", " ", "worth 1", "worths", "worths ", "worths 1 ", "worths  1", "worths 1  2", "worths 1 2/3",
                    "worths a", "worths 01", "define", "define A", "define x y", "define  x", "define x ", "define 1",
                    "define abcdefghi", "first ", "first x", "letter", "letter A", "letter a b", "letter ", "made",
                    "made a b", "made  a", "round 0 0", "part a 0 0", "program", ".", "drop", "font 64", "end", "else"):
            self.row(1, "font 64", bad)
            self.row(1, "font 64", bad, "letter a", ONE_ROUND)

    def test_rows_out_of_their_order(self):
        self.row(2, "font 64", "worths 1", "worths 1")
        self.row(3, "font 64", "define x", ".", "worths 1")
        self.row(3, "font 64", "first", ".", "first")
        self.row(3, "font 64", "first", ".", "define x")
        self.row(3, "font 64", "letter a", ONE_ROUND, "first")
        self.row(3, "font 64", "letter a", ONE_ROUND, "part a 0 0")
        self.row(2, "font 64", "made a", ONE_ROUND)
        self.row(5, "font 64", "letter a", ONE_ROUND, "program", ".", ONE_ROUND)
        self.row(5, "font 64", "letter a", ONE_ROUND, "program", ".", "program")
        self.row(3, "font 64", "made a", "part a 0 0", ONE_ROUND)

    def test_a_line_feed_at_the_end(self):
        self.row(1, "font 64", "")
        self.row(len(WHOLE.split("\n")), WHOLE, "")
        self.row(2, "font 64", "letter a", "", ONE_ROUND)

    def test_points_of_rounds(self):
        for bad in ("round", "round ", "round 0", "round 0 0 0", "round 0 0 on", "round 0 0 off off", "round 0 0,",
                    "round 0 0, ", "round 0 0,1 1", "round 0 0 , 1 1", "round 0 0,  1 1", "round 0 0, 1", "round  0 0",
                    "round 0 0 ", "round 0  0", "round 0 0, 1 1,", "round 0 0 off , 1 1", "round 0 1/2", "round 0 00",
                    "round , 0 0", "round 0 0, , 1 1", "round 0, 0", "round off", "round 0 off", "round 0 0 off 1 1"):
            self.row(2, "font 64", "letter a", bad)

    def test_parts(self):
        for bad in ("part", "part a", "part a 0", "part a 0 0 0", "part A 0 0", "part 0 0 0", "part a  0 0",
                    "part a 0 0 ",
                    "part a 0 1/2", "part a x 0", "part abcdefghi 0 0", "part  a 0 0", "part a 0, 0"):
            self.row(2, "font 64", "made b", bad)

    def test_whole_numbers_are_read_as_numbers_are(self):
        font = read_font("font 128/2\nworths -0 6/3 -4/2\nletter a\nround -0 0, 128/2 0/5 off, 64/1 64\nmade b\n"
                         "part a 4/2 -0")
        letters = [("a", Letter(Outline([ROUND]))), ("b", Made([("a", 2, 0)]))]
        self.assertEqual(font, Font(64, worths=[0, 2, -2], letters=letters))
        self.row(1, "font 64", "worths 00")
        self.row(1, "font 64", "worths 1/02")
        self.row(1, "font 64", "worths 1/0")

    def test_points_in_programs(self):
        for ahead in (["define x"], ["first"], ["letter a", ONE_ROUND, "program"], ["made a", "part b 0 0", "program"]):
            many = len(ahead) + 1
            self.row(many, "font 64", *ahead)
            self.row(many + 2, "font 64", *ahead, "drop", "swap")
            self.row(many + 1, "font 64", *ahead, "repeat 2", ".")
            self.row(many + 3, "font 64", *ahead, "if", "drop", "else", ".")
            self.row(many + 2, "font 64", *ahead, "if", "drop")
            self.row(many, "font 64", *ahead, "")
            self.row(many, "font 64", *ahead, "", ".")
            self.row(many, "font 64", *ahead, "end", ".")
            self.row(many, "font 64", *ahead, "else", ".")
            self.row(many, "font 64", *ahead, "drop ", ".")
            self.row(many, "font 64", *ahead, " .")
            self.row(many, "font 64", *ahead, ". ")
            self.row(many + 1, "font 64", *ahead, "drop", "push 01", ".")
            self.row(many + 1, "font 64", *ahead, "if", "end", "end", ".")
            self.row(many + 1, "font 64", *ahead, ".", ".")

    def test_rows_are_looked_at_ahead_of_all_else(self):
        self.row(3, "font 1", "worths 999999", "letter a", "x")
        deep = ["repeat 1"] * 7 + ["end"] * 7
        self.row(17, "font 64", "first", *deep, ".", "")
        self.row(4, "font 64", "first", "call q", ".", "made a b")

    def test_programs_in_their_order(self):
        deep = ["repeat 1"] * 6 + ["end"] * 6
        letter = ["letter a", "round 0 0", "program", *deep, "."]
        self.refused_at(Deep, {"at": 6}, read_font, text("define x", *["drop"], *deep, ".", "first", "call q", ".",
                                                         *letter))
        self.refused_at(NoDefinition, {"found": "q"}, read_font, text("define x", ".", "first", "call q", ".", *letter))
        self.refused_at(NoOutline, {"found": [(0, 0, True)]}, read_font, text("first", ".", *letter))
        self.refused_at(Deep, {"at": 5}, read_font, text("letter a", ONE_ROUND, "program", *deep, ".", "letter b"))
        self.refused_at(Deep, {"at": 5}, read_font, text("made a", "program", *deep, "."))
        self.refused_at(NoParts, {"found": []}, read_font, text("made a", "program", "."))
        self.refused_at(NoParts, {"found": []}, read_font, text("made a", "letter b"))
        self.refused_at(NoOutline, {"found": []}, read_font, text("letter b", "made a"))
        self.refused_at(NoProgram, {"found": [("drop",)] * 401}, read_font, text("first", *["drop"] * 401, "."))
        self.refused_at(TooMany, {"many": 401}, read_font, text("first", "repeat 1", *["drop"] * 400, "end", "."))

    def test_definitions_call_those_ahead(self):
        self.refused_at(NoDefinition, {"found": "x"}, read_font, text("define x", "call x", "."))
        self.refused_at(NoDefinition, {"found": "yy"}, read_font, text("define x", "call yy", ".", "define yy", "."))
        self.refused_at(NoDefinition, {"found": "z"}, read_font,
                        text("define x", ".", "first", "call x", "call z", "."))
        self.refused_at(NoDefinition, {"found": "z"}, read_font, text("letter a", ONE_ROUND, "program", "call z", "."))
        self.refused_at(NoDefinition, {"found": "z"}, read_font, text("made a", "part b 0 0", "program", "call z", "."))
        font = read_font(text("define x", ".", "define yy", "call x", ".", "first", "call yy", "."))
        self.assertEqual(list(font.definitions()), ["x", "yy"])
        self.assertEqual(font.first().calls(), ["yy"])

    def test_then_as_the_font_is_refused(self):
        letter = ["letter a", ONE_ROUND]
        for em in (15, 4097, 0, -64, MOST):
            self.refused_at(NoNumber, {"found": em}, read_font, f"font {em}\nworths 999999")
        self.refused_at(NoWorths, {"found": list(range(13))}, read_font,
                        text("worths " + " ".join(map(str, range(13)))))
        self.refused_at(NoNumber, {"found": 100000}, read_font, text("worths 1 100000 -100000"))
        self.refused_at(NoName, {"found": "x"}, read_font, text("define x", ".", "define x", ".", *letter, *letter))
        self.refused_at(NoName, {"found": "a"}, read_font, text(*letter, *letter))
        self.refused_at(NoSuch, {"found": "b"}, read_font, text("made a", "part b 0 0", "letter b", ONE_ROUND))
        self.refused_at(TooMany, {"many": 5}, read_font, text("letter a", *[ONE_ROUND] * 4, "letter b", ONE_ROUND,
                                                              "made c",
                                                             "part a 0 0", "part b 0 0"))
        self.refused_at(NoPoint, {"found": (0, 100000, True)}, read_font, text("letter a", "round 0 0, 0 100000, 1 1"))
        self.refused_at(NoParts, {"found": ("a", 100000, 0)}, read_font, text(*letter, "made b", "part a 100000 0"))
        self.refused_at(NoParts, {"found": [("a", 0, 0)] * 5}, read_font, text(*letter, "made b", *["part a 0 0"] * 5))
        self.refused_at(NoOutline, {"found": [ROUND] * 5}, read_font, text("letter a", *[ONE_ROUND] * 5))
        self.refused_at(NoOutline, {"found": [(0, 0, True)] * 13}, read_font,
                        text("letter a", "round " + ", ".join(["0 0"] * 13)))
        rows = []
        for at in range(25):
            rows += [f"letter {'abcdefghijklmnopqrstuvwxy'[at]}", ONE_ROUND]
        with self.assertRaises(NoFont) as caught:
            read_font(text(*rows))
        self.assertEqual([name for name, _ in caught.exception.found], list("abcdefghijklmnopqrstuvwxy"))
        self.assertIs(type(caught.exception.found), list)
        self.assertEqual(len(read_font(text(*rows[:48]))), 24)

    def test_nine_definitions(self):
        rows = []
        for name in "abcdefghi":
            rows += [f"define {name}", "."]
        self.assertEqual(len(read_font(text(*rows[:16])).definitions()), 8)
        with self.assertRaises(NoFont) as caught:
            read_font(text(*rows, "letter a", ONE_ROUND))
        self.assertEqual(caught.exception.found, [(name, Program([])) for name in "abcdefghi"])

    def test_kinds_of_what_is_handed_on(self):
        with self.assertRaises(NoOutline) as caught:
            read_font(text("letter a", *[ONE_ROUND] * 5))
        found = caught.exception.found
        self.assertEqual((type(found), type(found[0]), type(found[0][0])), (list, list, tuple))
        with self.assertRaises(NoParts) as caught:
            read_font(text("made a", *["part b 1 2"] * 5))
        found = caught.exception.found
        self.assertEqual((type(found), type(found[0])), (list, tuple))

    def test_more_names_than_a_program_takes(self):
        rows = ["define a", "."] * 401
        self.refused_at(NoFont, {"found": [("a", Program([]))] * 401}, read_font, text(*rows))
        self.refused_at(NoName, {"found": ["a"] * 401}, read_font, text(*rows, "first", "."))
        self.refused_at(NoName, {"found": ["a"] * 401}, read_font, text(*rows, "define b", "."))

    def test_deep_texts(self):
        rows = ["repeat 1"] * 2000 + ["end"] * 2000
        self.refused_at(Deep, {"at": 5}, read_font, text("first", *rows, "."))
        self.row(4002, "font 64", "first", *rows)

    def test_a_letter_may_have_any_name_of_a_word(self):
        font = read_font(text("letter round", ONE_ROUND, "letter part", ONE_ROUND, "made program", "part round 1 1"))
        self.assertEqual(font.names(), ["round", "part", "program"])
        self.assertEqual(read_font(show_font(font)), font)


if __name__ == "__main__":
    unittest.main()
