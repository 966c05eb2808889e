"""The desk: points 123 to 126."""

import random
import unittest

from hintedpoints import errors
from hintedpoints.cells import cells, picture
from hintedpoints.desk import Desk
from hintedpoints.errors import Fault, NoDefinition, NoLimit, NoLine, NoNumber, NoOutline, NoProgram, NoRow, NoSuch
from hintedpoints.errors import TooMany, Unready
from hintedpoints.fonts import Font, Letter
from hintedpoints.fonttext import read_font, show_font
from hintedpoints.look import Look
from hintedpoints.numbers import number_text
from hintedpoints.outlines import polygons
from hintedpoints.programs import Program, read_program
from hintedpoints.sessions import Session
from hintedpoints.shorten import shortened
from hintedpoints.sizes import Size
from hintedpoints.straight import straight
from hintedpoints.turns import first_crossing, turns
from tests.helpers import MOST, Looks, no_numbers, no_things
from tests.makers import FontMaker
from tests.test_straight import with_program

ROUND = "round 0 0, 100 0, 100 100, 0 100"
LETTERS = ["letter a", ROUND, "letter b", "round 0 0, 64 0 off, 64 64", "round 9 9, 20 9, 9 20", "program", "push 0",
           "settle", ".", "made c", "part a 1 2", "part b 0 0"]
SAMPLE = "font 64 / define x / drop / . / " + " / ".join(LETTERS)
EMPTY = "font 64"
ASKS = {"show": [], "names": [], "letter": ["a", "1"], "touched": ["a", "1"], "cells": ["a", "1"],
        "picture": ["a", "1"], "store": ["1"], "worths": ["1"], "fault": ["1"], "turns": ["a", "1"],
        "crossing": ["a", "1"], "look": ["a"], "straight": ["a", "1"], "kept": [], "log": []}
CHANGES = {"program": ["a", "drop"], "bare": ["a"], "short": ["b"], "undo": []}


def sample(rows=SAMPLE, **limits):
    """A desk that has this font."""
    desk = Desk(**limits)
    desk.say("font " + rows)
    return desk


def in_line(text):
    """A text as it is answered."""
    return text.replace("\n", " / ") or "none"


def shape_text(shape):
    """What is answered to `letter`."""
    rounds, begin = [], 0
    for end in shape.ends():
        rounds.append(", ".join(f"{number_text(x)} {number_text(y)}" for x, y in shape.places()[begin:end + 1]))
        begin = end + 1
    return " | ".join(rounds)


def spaced(things, between=" "):
    """Numbers and texts with something between any two, or none."""
    return between.join(thing if isinstance(thing, str) else number_text(thing) for thing in things) or "none"


def rows_of(rows):
    """Rows as they are answered."""
    return spaced([spaced(row) for row in rows], "; ")


class Lines(unittest.TestCase, Looks):
    def no_line(self, thing, desk=None):
        """Is this no line, for desks with and without a font?"""
        for each in (Desk(), sample()) if desk is None else (desk,):
            rows = each.rows()
            self.refused(NoLine, thing, each.say, thing)
            self.assertEqual((each.rows(), each.at_work()), (rows, 0))

    def test_what_is_no_text(self):
        for thing in no_things() + [1, ["show"], ("show",), b"show"]:
            if not isinstance(thing, str):
                self.no_line(thing)

    def test_first_words(self):
        for text in ("", " ", "nothing", "Show", "shows", "sho", "done", "read", "show\n", "\nshow", "show\nshow",
                     "font\n64", "font font 64\n", "program a drop\ndrop", "names/", "/", ".", "true", "size 1",
                     "what is this?",
                     "x" * 40000):
            self.no_line(text)

    def test_blanks(self):
        for name, things in list(ASKS.items()) + list(CHANGES.items()):
            text = " ".join([name, *things])
            self.no_line(" " + text)
            if name != "program":
                self.no_line(text + " ")
                self.no_line(text.replace(" ", "  ") + ("" if things else " "))
        for text in ("font", "font ", " font font 64", "program", "program ", "program a ", "program  a drop",
                     "program  a",
                     " program a drop", "bare ", "bare  a"):
            self.no_line(text)

    def test_too_few_and_too_many_things(self):
        for name, things in list(ASKS.items()) + [(name, CHANGES[name]) for name in ("bare", "short", "undo")]:
            self.no_line(" ".join([name, *things, "1"]))
            self.no_line(" ".join([name, *things, "a"]))
            if things:
                self.no_line(" ".join([name, *things[:-1]]))

    def test_names_and_sizes(self):
        for name, things in list(ASKS.items()) + list(CHANGES.items()):
            for at, thing in enumerate(things):
                bad = ["A", "a1", "abcdefghi", "", "a/", "-", "1"] if thing in "ab" else [
                    "0", "201", "1/2", "-1", "01", "1.5", "a", "", "+1", "400/1", "1/0", "1" * 61]
                for text in bad if thing != "drop" else ():
                    self.no_line(" ".join([name, *things[:at], text, *things[at + 1:]]))

    def test_a_size_that_is_written_as_a_part(self):
        desk = sample()
        for text in ("2", "4/2", "400/200"):
            self.assertEqual(desk.say(f"letter a {text}"), desk.say("letter a 2"))
        self.assertEqual(desk.say("kept"), "2")
        self.assertEqual(desk.say("letter a 200"), desk.say("letter a 400/2"))

    def test_rows_may_begin_and_end_with_blanks(self):
        desk = sample()
        for text, at in (("font  font 64", 0), ("font font 64 ", 0), ("font  ", 0), ("font  / font 64", 0),
                         ("font font 64 / ", 1),
                         ("program a  drop", 0), ("program a drop ", 0), ("program a  ", 0), ("program a  / drop", 0),
                         ("program a drop / ", 1), ("program a drop /", 0), ("program a / drop", 0),
                         ("program a drop / / drop", 1), ("program a drop /  / drop", 1),
                         ("program a drop  / drop", 0)):
            self.refused_at(NoRow, {"at": at}, desk.say, text)
            self.assertEqual(desk.rows()[-1], (text.split(" ")[0], "refused"))
        self.assertEqual(len(desk), 1)

    def test_no_blank_is_of_two_line_feeds(self):
        desk = sample()
        self.refused_at(NoRow, {"at": 1}, desk.say, "program a drop / / drop")
        self.refused_at(NoRow, {"at": 0}, desk.say, "program a / / / drop")
        self.assertEqual(desk.say("program a drop / drop / drop"), "ok")

    def test_unready_without_a_font(self):
        desk = Desk()
        told = 0
        for name, things in list(ASKS.items()) + list(CHANGES.items()):
            self.assertRaises(Unready, desk.say, " ".join([name, *things]))
            self.no_line(" ".join([name, *things, "a b"]) if name != "program" else "program 1", desk)
            told += 1
            self.assertEqual(desk.rows()[-1], (name, "refused"))
        self.assertRaises(Unready, desk.say, "letter zz 1")
        self.assertRaises(Unready, desk.say, "program zz")
        self.refused_at(NoRow, {"at": 0}, desk.say, "font x")
        self.assertEqual((len(desk), len(desk.rows()), desk.at_work()), (0, told + 3, 0))

    def test_limits(self):
        for thing in no_numbers() + [0, 9, (1, 2)]:
            self.refused(NoLimit, thing, Desk, keep=thing)
            self.refused(NoLimit, thing, Desk, budget=None, stack=None, keep=thing)
        for thing in no_numbers() + [0, 101, MOST]:
            self.refused(NoLimit, thing, Desk, stack=thing, budget=None)
        for thing in no_numbers() + [0, 401, MOST]:
            self.refused(NoLimit, thing, Desk, budget=thing)
        self.assertRaises(TypeError, Desk, 3)


class Changes(unittest.TestCase, Looks):
    def test_font(self):
        desk = Desk()
        self.assertEqual(desk.say("font font 64"), "ok")
        self.assertEqual(desk.say("show"), "font 64")
        self.assertEqual(desk.say(line="font " + SAMPLE), "ok")
        self.assertEqual(desk.say("show"), SAMPLE)
        self.assertEqual(len(desk), 2)

    def test_font_refused(self):
        desk = sample()
        desk.say("letter a 1")
        for text, kind, fields in (("font x", NoRow, {"at": 0}), ("font font 1", NoNumber, {"found": 1}),
                                   ("font font 64 / letter a", NoOutline, {"found": []}),
                                   ("font font 64 / first / call x / .", NoDefinition, {"found": "x"})):
            self.refused_at(kind, fields, desk.say, text)
        self.assertEqual((desk.say("show"), len(desk), desk.say("kept")), (SAMPLE, 1, "1"))

    def test_program(self):
        desk = sample()
        self.assertEqual(desk.say("program a push 0 / if / call x / else / rest east / end"), "ok")
        rows = ["program", "push 0", "if", "call x", "else", "rest east", "end", "."]
        self.assertIn(" / ".join(["letter a", ROUND, *rows]), desk.say("show"))
        self.assertEqual(desk.say("program c settle"), "ok")
        self.assertTrue(desk.say("show").endswith("made c / part a 1 2 / part b 0 0 / program / settle / ."))
        self.assertEqual(desk.say("program a"), "ok")
        self.assertIn(" / ".join(["letter a", ROUND, "program", ".", "letter b"]), desk.say("show"))
        self.assertEqual(len(desk), 4)

    def test_program_refused(self):
        desk = sample()
        for name in ("z", "x", "letter"):
            self.refused_at(NoSuch, {"found": name}, desk.say, f"program {name} !")
            self.refused_at(NoSuch, {"found": name}, desk.say, f"program {name}")
            self.refused_at(NoSuch, {"found": name}, desk.say, f"bare {name}")
            self.refused_at(NoSuch, {"found": name}, desk.say, f"short {name}")
        self.refused_at(NoDefinition, {"found": "yy"}, desk.say, "program a call x / call yy")
        self.refused_at(NoRow, {"at": 1}, desk.say, "program a repeat 2")
        self.refused_at(NoRow, {"at": 1}, desk.say, "program a drop / .")
        self.assertEqual((desk.say("show"), len(desk)), (SAMPLE, 1))

    def test_bare(self):
        desk = sample()
        self.assertEqual(desk.say("bare b"), "ok")
        self.assertNotIn("program", desk.say("show"))
        self.assertEqual(desk.say("bare b"), "ok")
        self.assertEqual((len(desk), desk.say("bare c"), len(desk)), (3, "ok", 4))

    def test_short(self):
        desk = sample()
        desk.say("program c size / drop / repeat 1 / rest east / end / call x")
        self.assertEqual(desk.say("short c"), "ok")
        self.assertTrue(desk.say("show").endswith("part b 0 0 / program / rest east / call x / ."))
        self.assertEqual(desk.say("short b"), "ok")
        self.refused_at(NoProgram, {"found": None}, desk.say, "short a")
        self.assertEqual(len(desk), 4)

    def test_undo(self):
        desk = Desk()
        self.assertRaises(Unready, desk.say, "undo")
        desk.say("font font 64")
        desk.say("font " + SAMPLE)
        shows = [desk.say("show")]
        for line in ("program a drop", "bare b", "program c swap", "short c", "bare c"):
            desk.say(line)
            self.assertRaises(errors.FontError, desk.say, "font x")
            shows.append(desk.say("show"))
        self.assertEqual(len(desk), 7)
        for wanted in shows[-2::-1]:
            self.assertEqual(desk.say("undo"), "ok")
            self.assertEqual(desk.say("show"), wanted)
        self.assertEqual(desk.say("undo"), "ok")
        self.assertEqual((desk.say("show"), len(desk)), ("font 64", 1))
        self.assertEqual((desk.say("undo"), len(desk)), ("ok", 0))
        for line in ("undo", "show", "bare a"):
            self.assertRaises(Unready, desk.say, line)
        self.assertEqual(desk.say("font " + SAMPLE), "ok")
        self.assertEqual((desk.say("show"), len(desk)), (SAMPLE, 1))

    def test_undo_and_then_another_change(self):
        desk = sample()
        desk.say("program a drop")
        desk.say("undo")
        desk.say("program a swap")
        self.assertIn("swap", desk.say("show"))
        desk.say("undo")
        self.assertEqual((desk.say("show"), len(desk)), (SAMPLE, 1))

    def test_each_change_gives_a_new_session(self):
        desk = sample()
        for line in ("program a", "bare a", "program a drop", "short a", "undo", "font " + SAMPLE):
            desk.say("letter b 5")
            self.assertEqual((desk.say("kept"), desk.say("log")), ("5", "in b 5; out b 5"))
            desk.say(line)
            self.assertEqual((desk.say("kept"), desk.say("log")), ("none", "none"))


class Asks(unittest.TestCase, Looks):
    def test_by_hand(self):
        desk = sample()
        self.assertEqual(desk.say("names"), "a b c")
        self.assertEqual(desk.say("letter a 64"), "0 0, 6400 0, 6400 6400, 0 6400")
        self.assertEqual(desk.say("letter b 1"), "0 0, 64 0, 64 64 | 9 9, 20 9, 9 20")
        self.assertEqual(desk.say("touched b 1"), "east no no no no no")
        self.assertEqual(desk.say("touched c 1"), " ".join(["no"] * 10))
        self.assertEqual(desk.say("cells a 1"), "0 0 2; 1 0 2")
        self.assertEqual(desk.say("picture a 1"), "xx / xx")
        self.assertEqual(desk.say("turns c 1"), "1 1 1")
        self.assertEqual(desk.say("crossing a 1"), "none")
        self.assertEqual(desk.say("crossing c 1"), "0 0 1 0")
        self.assertEqual(desk.say("store 1"), "0 0 0 0 0 0 0 0")
        self.assertEqual(desk.say("worths 1"), "none")
        self.assertEqual(desk.say("fault 1"), "none")
        self.assertEqual(desk.say("look a"), "none")
        self.assertEqual(desk.say("look b"), "0 2 2 / none / 1")
        self.assertEqual(desk.say("straight b 1"), "push 0 / settle")
        self.assertEqual(desk.say("straight a 1"), "none")

    def test_parts_of_numbers(self):
        desk = sample("font 1000 / worths 80 -5 / " + " / ".join(LETTERS))
        self.assertEqual(desk.say("worths 1"), "128/25 -8/25")
        self.assertEqual(desk.say("letter a 1"), "0 0, 32/5 0, 32/5 32/5, 0 32/5")

    def test_touches(self):
        desk = sample()
        desk.say("program a push 0 / push 1 / shift / way 0 1 / push 1 / push 1 / shift / way 3 4 / push 2 / push 0 / "
                 "shift")
        self.assertEqual(desk.say("touched a 1"), "east north both no")

    def test_drops_and_turns(self):
        desk = sample("font 64 / letter a / round 0 0, 0 64, 10 64, 10 0 / letter b / round 0 0, 5 5, 10 10")
        self.assertEqual((desk.say("cells a 1"), desk.say("picture a 1")), ("0 0 1", "x"))
        self.assertEqual((desk.say("turns a 1"), desk.say("turns b 1")), ("-1", "0"))
        self.assertEqual((desk.say("cells b 1"), desk.say("picture b 1")), ("none", "none"))

    def test_three_sizes_are_kept_where_nothing_is_told(self):
        desk = sample()
        for size in range(1, 7):
            desk.say(f"letter a {size}")
        self.assertEqual(desk.say("kept"), "4 5 6")

    def test_a_font_without_letters(self):
        desk = sample(EMPTY)
        self.assertEqual((desk.say("names"), desk.say("kept"), desk.say("log")), ("none", "none", "none"))
        for name, things in ASKS.items():
            if "a" in things:
                self.refused_at(NoSuch, {"found": "a"}, desk.say, " ".join([name, *things]))

    def test_a_fault(self):
        desk = sample("font 64 / worths 7 / first / push 9 / push 0 / keep / over / . / " + " / ".join(LETTERS))
        self.assertEqual(desk.say("fault 3"), "3 lack")
        self.assertEqual((desk.say("store 3"), desk.say("worths 3")), ("0 0 0 0 0 0 0 0", "21"))
        self.assertEqual(desk.say("kept"), "none")
        for line in ("letter a 3", "touched c 3", "cells a 3", "picture a 3", "turns a 3", "crossing a 3",
                     "straight a 3"):
            self.refused_at(Fault, {"done": 3, "why": "lack"}, desk.say, line)
        self.assertEqual(desk.say("kept"), "3")
        self.assertEqual(desk.say("log"), "; ".join(f"{word} {name} 3" for name in "acaaaa" for word in ("in", "out")))

    def test_stack_and_budget(self):
        font = "font 64 / first / size / size / . / letter a / " + ROUND + " / program / size / size / size / ."
        desk = sample(font, stack=2, budget=9)
        self.assertEqual(desk.say("fault 1"), "none")
        self.refused_at(Fault, {"done": 2, "why": "full"}, desk.say, "letter a 1")
        self.assertEqual(desk.say("look a"), "none / full 2 / 2")
        self.assertEqual(desk.say("straight a 1"), "size / size / size")
        desk = sample(font, budget=2)
        self.refused_at(Fault, {"done": 2, "why": "budget"}, desk.say, "letter a 1")
        self.assertEqual(desk.say("look a"), "none / budget 2 / 2")
        desk = sample(font, budget=1)
        self.assertEqual(desk.say("fault 1"), "1 budget")

    def test_look(self):
        desk = sample("font 64 / define x / when 3 5 / size / end / . / " + " / ".join(LETTERS))
        desk.say("program a call x / size / if / else / drop / end")
        self.assertEqual(desk.say("look a"), "0 4 6; 1 5 5 / lack 4 / 2")

    def test_too_many(self):
        desk = sample("font 64 / letter a / round 0 0, 6400 0, 6400 6400")
        self.assertRaises(TooMany, desk.say, "cells a 200")
        self.assertRaises(TooMany, desk.say, "picture a 3")
        self.assertEqual(desk.rows()[1:], [("cells", "refused"), ("picture", "refused")])
        self.assertEqual(desk.say("log"), "in a 200; out a 200; in a 3; out a 3")
        self.assertEqual(desk.say("kept"), "200 3")

    def test_the_log_goes_on(self):
        desk = sample(keep=2)
        lines = ["letter c 1", "touched a 1", "cells b 2", "picture b 2", "turns a 3", "crossing a 3", "letter a 1"]
        for line in lines:
            desk.say(line)
        self.refused_at(NoSuch, {"found": "z"}, desk.say, "letter z 1")
        self.assertEqual(desk.say("log"),
                         "in c 1; in a 1; out a 1; in b 1; out b 1; out c 1; kept a 1; in b 2; out b 2; "
                                          "kept b 2; in a 3; out a 3; kept a 3; in a 1; out a 1")
        self.assertEqual(desk.say("kept"), "3 1")
        before = desk.say("log")
        for line in ("straight b 9", "store 9", "worths 9", "fault 9", "look b", "show", "names", "kept", "log"):
            desk.say(line)
        self.assertEqual((desk.say("log"), desk.say("kept")), (before, "3 1"))


class Rows(unittest.TestCase, Looks):
    def test_rows(self):
        desk = Desk()
        self.assertEqual((desk.rows(), desk.at_work(), len(desk)), ([], 0, 0))
        for line, end in (("show", "refused"), ("font font 64", "done"), ("what", None), ("names", "done"),
                          ("font ", None), ("bare a", "refused"), ("font !", "refused"), ("undo", "done"), (None, None),
                          ("undo", "refused")):
            many = len(desk.rows())
            try:
                self.assertIs(type(desk.say(line)), str)
                self.assertEqual(end, "done")
            except (errors.FontError, errors.Missing, errors.Unknown):
                self.assertNotEqual(end, "done")
            self.assertEqual(desk.rows()[many:], [] if end is None else [(line.split(" ")[0], end)])
            self.assertEqual(desk.at_work(), 0)
        self.assertIs(type(desk.rows()), list)
        self.assertEqual([type(row) for row in desk.rows()], [tuple] * 7)
        desk.rows().clear()
        self.assertEqual(len(desk.rows()), 7)

    def test_two_desks_have_nothing_in_common(self):
        one, other = sample(), sample()
        one.say("letter a 1")
        one.say("bare b")
        self.assertEqual((other.say("kept"), other.say("show"), len(other)), ("none", SAMPLE, 1))
        self.assertEqual(len(other.rows()), 3)


class Random(unittest.TestCase, Looks):
    """Random lines, answered a second time by the parts of the program that the points name."""

    def told(self, font, session, limits, line):
        """What is answered, or the refusal."""
        word, *things = line.split(" ")
        try:
            return self.answer(font, session, limits, word, things)
        except (errors.FontError, errors.Missing, errors.Unknown) as refusal:
            return (type(refusal), vars(refusal))

    def answer(self, font, session, limits, word, things):
        name = things[0] if things else None
        number = int(things[-1]) if things and things[-1].isdigit() else None
        if word in ("store", "worths"):
            size = Size(font, number, **limits)
            return spaced(size.store() if word == "store" else size.worths())
        if word == "fault":
            return spaced(Size(font, number, **limits).fault() or ())
        if word == "look":
            if font.letter(name).program() is None:
                return "none"
            look = Look(font.letter(name).program(), definitions=font.definitions(), **limits)
            ends = rows_of([(row[0], row[1], row[3]) for row in look.ends()])
            return f"{ends} / {rows_of([row[:2] for row in look.faults()])} / {look.top()[0]}"
        if word == "straight":
            return in_line(str(straight(font, name, size=number)))
        if word in ("kept", "log"):
            return spaced(session.kept()) if word == "kept" else rows_of(session.log())
        if word in ("show", "names"):
            return in_line(show_font(font)) if word == "show" else spaced(font.names())
        shape = session.letter(name, size=number)
        if word == "letter":
            return shape_text(shape)
        if word == "touched":
            return spaced([["no", "north", "east", "both"][2 * east + north] for east, north in shape.touched()])
        parts = polygons(shape.places(), shape.ends(), shape.truths())
        edges = first_crossing(parts) if word == "crossing" else None
        return {"cells": lambda: rows_of(cells(parts)), "picture": lambda: in_line(picture(cells(parts))),
                "turns": lambda: spaced(turns(parts)),
                "crossing": lambda: spaced(edges[0] + edges[1] if edges else ())}[word]()

    def line(self, chance, font):
        word = chance.choice(list(ASKS) + ["letter", "letter", "log", "kept", "look", "straight"])
        things = [chance.choice(font.names() + ["zz"]) if thing == "a" else str(chance.choice([1, 2, 3, 12]))
                  for thing in ASKS[word]]
        return " ".join([word, *things])

    def changed(self, chance, font):
        """A line that changes the font, and the font that comes of it."""
        name = chance.choice(font.names())
        letter = font.letter(name)
        if letter.program() is not None and chance.random() < 0.5:
            return f"short {name}", font.replaced(name, with_program(letter, shortened(letter.program())[0]))
        if chance.random() < 0.3:
            return f"bare {name}", font.replaced(name, with_program(letter, None))
        rows = chance.choice(["push 1\nsettle", "size\nif\nrest east\nelse\nend", "drop"])
        program = read_program(rows, names=list(font.definitions()))
        return f"program {name} {in_line(rows)}", font.replaced(name, with_program(letter, program))

    def once(self, seed, seen):
        chance = random.Random(seed)
        font = FontMaker(seed).font(4)
        limits = {"stack": chance.choice([3, 24]), "budget": chance.choice([20, 400])}
        desk = sample(in_line(show_font(font)), keep=2, **limits)
        session, before = Session(font, keep=2, **limits), []
        for _ in range(40):
            if chance.random() < 0.1:
                before.append(font)
                line, font = self.changed(chance, font)
                self.assertEqual(desk.say(line), "ok")
                session = Session(font, keep=2, **limits)
            elif before and chance.random() < 0.1:
                font = before.pop()
                self.assertEqual(desk.say("undo"), "ok")
                session = Session(font, keep=2, **limits)
            line = self.line(chance, font)
            wanted = self.told(font, session, limits, line)
            if isinstance(wanted, str):
                self.assertEqual(desk.say(line), wanted, line)
            else:
                self.refused_at(*wanted, desk.say, line)
            seen.append((line.split(" ")[0], "done" if isinstance(wanted, str) else "refused"))
            self.assertEqual((desk.rows()[-1], desk.at_work(), len(desk)), (seen[-1], 0, len(before) + 1))
        self.assertEqual(read_font(desk.say("show").replace(" / ", "\n")), font)

    def test_random_lines(self):
        seen = []
        for seed in range(60):
            with self.subTest(seed=seed):
                self.once(seed, seen)
        for word in ASKS:
            self.assertGreater(seen.count((word, "done")), 10, word)
        self.assertGreater(len([1 for _, end in seen if end == "refused"]), 100)

    def test_letters_that_were_made_here(self):
        font = Font(64, letters=[("a", Letter(read_font(SAMPLE.replace(" / ", "\n")).letter("a").outline(),
                                              program=Program([("size",)])))])
        self.assertEqual(sample(in_line(show_font(font))).say("look a"), "1 1 1 / none / 1")


if __name__ == "__main__":
    unittest.main()
