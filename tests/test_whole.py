"""What the document promises over the whole program: points 1 to 8."""

import copy
import importlib
import random
import unittest
from pathlib import Path

from hintedpoints.cells import cell_of, cells, in_both, picture
from hintedpoints.desk import Desk
from hintedpoints.errors import Fault, Missing, NoPoint, TooMany, Unready
from hintedpoints.fonts import Font, Letter, Made
from hintedpoints.fonttext import read_font, show_font
from hintedpoints.look import Look, gone_by
from hintedpoints.machine import Machine
from hintedpoints.outlines import Outline, polygons
from hintedpoints.programs import Program, read_program
from hintedpoints.sessions import Session
from hintedpoints.shorten import shortened, shortenings
from hintedpoints.sizes import Size
from hintedpoints.straight import straight
from hintedpoints.turns import judged, turns
from hintedpoints.zones import Zone
from tests.helpers import Looks, deep_thing, no_things, refusals
from tests.makers import FontMaker, Maker
from tests.test_straight import with_program

OUTLINE = Outline([[(0, 0, True), (100, 0, False), (0, 100, True)]])
FILES = sorted(path.stem for path in (Path(__file__).resolve().parent.parent / "hintedpoints").glob("*.py"))


def shapes_of(font, size):
    """Of each letter the shape, or the fault, at a size."""
    here, found = Size(font, size), {}
    for name in font.names():
        try:
            found[name] = here.letter(name)
        except Fault as fault:
            found[name] = (fault.done, fault.why)
    return found


class Fonts(unittest.TestCase):
    """Random fonts, of which the parts of the program tell the same."""

    def fonts(self, many):
        for seed in range(many):
            yield random.Random(seed), FontMaker(seed).font(5)

    def test_a_font_that_was_read_does_the_same(self):
        for chance, font in self.fonts(60):
            size = chance.choice([1, 12, 200])
            read = read_font(show_font(font))
            self.assertEqual(shapes_of(read, size), shapes_of(font, size))
            self.assertEqual(Size(read, size).made_up(), Size(font, size).made_up())

    def test_shorter_programs_tell_the_same_shapes(self):
        shorter = 0
        for chance, font in self.fonts(150):
            size = chance.choice([1, 12, 200])
            shapes = shapes_of(font, size)
            for name in font.names():
                program = font.letter(name).program()
                if program is None or isinstance(shapes[name], tuple):
                    continue
                told, steps = shortened(program)
                self.assertEqual(shortenings(told), [])
                other = font.replaced(name, with_program(font.letter(name), told))
                self.assertEqual(Size(other, size).letter(name), shapes[name])
                shorter += len(steps) > 0
        self.assertGreater(shorter, 10)

    def test_straight_programs_are_looked_through_without_asks(self):
        told = 0
        for chance, font in self.fonts(80):
            size = chance.choice([1, 12, 200])
            for name in font.names():
                try:
                    words = straight(font, name, size=size)
                except Fault:
                    continue
                look = Look(words)
                self.assertEqual((look.faults(), look.idle()), ([], []))
                self.assertEqual([row[1:] for row in look.ends()], [(len(words), [], len(words), [])])
                self.assertEqual(gone_by(words, [])[2], len(words))
                told += 1
        self.assertGreater(told, 100)

    def test_runs_keep_within_their_look(self):
        """What a run counts lies from the least to the most of the ways that end as high."""
        seen = {}
        for seed in range(300):
            maker = Maker(seed)
            definitions = {"a": Program(maker.words(4, 2, [], 1, 3))}
            program = Program(maker.words(4, 2, ["a"], 2, 6), names=["a"])
            limits = {"size": 12, "stack": 5, "budget": 30}
            look = Look(program, definitions=definitions, **limits)
            zone = Zone([(0, 0), (9, 0), (9, 9), (0, 9)], [3])
            machine = Machine(definitions, worths=[1, 2], zone=zone, **limits)
            try:
                counted = machine.run(program)
            except Fault as fault:
                self.assertEqual((machine.zone(), machine.log(), machine.at_rest()), (zone, ["in", "out"], True))
                least = [row[1] for row in look.faults() if row[0] == fault.why]
                if fault.why in ("budget", "lack", "full"):
                    self.assertLessEqual(least[0], fault.done)
                seen[fault.why] = seen.get(fault.why, 0) + 1
                continue
            rows = [row for row in look.ends() if row[0] == len(machine.stack())]
            self.assertTrue(rows[0][1] <= counted <= rows[0][3])
            seen["end"] = seen.get("end", 0) + 1
        for why in ("end", "budget", "lack", "full"):
            self.assertGreater(seen.get(why, 0), 3, seen)

    def test_pictures_show_the_cells_that_are_told_one_by_one(self):
        seen = 0
        for chance, font in self.fonts(60):
            for name, shape in shapes_of(font, chance.choice([1, 5, 12])).items():
                if isinstance(shape, tuple):
                    continue
                parts = polygons(shape.places(), shape.ends(), shape.truths())
                self.assertEqual(len(turns(parts)), len(shape.ends()))
                self.assertIn(judged(parts, parts)[0], ("turned", "crossed", "kept"))
                try:
                    spans = cells(parts)
                    rows = picture(spans).split("\n")
                except TooMany:
                    continue
                if not spans:
                    continue
                west, north = min(span[1] for span in spans), spans[-1][0]
                for _ in range(10):
                    down, at = chance.randrange(len(rows)), chance.randrange(len(rows[0]))
                    told = cell_of(parts, west + at, north - down)
                    self.assertEqual(rows[down][at] == "x", told != ("out",))
                    seen += 1
        self.assertGreater(seen, 300)

    def test_letters_side_by_side(self):
        """What two polygons have in common, edge by edge, is filled by one of them alone, but by drops."""
        for seed in range(100):
            chance = random.Random(seed)
            def far():
                return chance.randint(-300, 300)
            amid = sorted([(far(), far()) for _ in range(3)], key=lambda place: place[1])
            edge = [(far(), -400), *amid, (far(), 400)]
            one = [(-500, -400), *edge, (-500, 400)]
            other = [(500, 400), *edge[::-1], (500, -400)]
            self.assertEqual(in_both(cells([one], drops=False), cells([other], drops=False)), [])
            for row, begin, end in in_both(cells([one]), cells([other])):
                for column in range(begin, end):
                    told = [cell_of([part], column, row)[0] for part in (one, other)]
                    self.assertIn("drop", told)


class Copies(unittest.TestCase):
    """What is handed in is kept as a copy, and what is told is the asker's own."""

    def test_of_fonts(self):
        worths, letters, definitions = [1], [("a", Letter(OUTLINE))], [("x", Program([]))]
        font = Font(64, worths=worths, letters=letters, definitions=definitions)
        session, size = Session(font), Size(font, 1)
        before = (size.worths(), size.letter("a").places(), show_font(font))
        for thing in (worths, letters, definitions, font.worths(), font.names()):
            thing.clear()
        font.definitions().clear()
        self.assertEqual((size.worths(), size.letter("a").places(), show_font(font)), before)
        self.assertEqual(session.letter("a", size=1), size.letter("a"))

    def test_of_definitions(self):
        definitions = {"x": Program([("size",)])}
        program = Program([("call", "x")], names=["x"])
        look = Look(program, definitions=definitions)
        definitions["x"] = Program([("size",), ("size",)])
        self.assertEqual(look.ends(), [(1, 2, [], 2, [])])

    def test_what_is_handed_in_is_not_changed(self):
        parts = [[(0, 0), (9, 0), (9, 99)], [(1, 1)]]
        truths, names, spans = [True], ["a", "a"], [(0, 0, 1), (0, 2, 3)]
        definitions = {"x": Program([("when", 1, 1, [])])}
        handed = (parts, truths, names, spans, definitions)
        before = copy.deepcopy(handed[:-1])
        cells(parts)
        cell_of(parts, 0, 0)
        gone_by(Program([("call", "x")], names=["x"]), truths, definitions=definitions)
        Session(Font(64, letters=[("a", Letter(OUTLINE))])).shapes(names, size=1)
        in_both(spans, spans)
        picture(spans)
        self.assertEqual(handed[:-1], before)
        self.assertEqual(list(definitions), ["x"])

    def test_equal_questions_have_equal_answers(self):
        font = Font(64, letters=[("a", Letter(OUTLINE, program=Program([("push", 0), ("settle",)])))])
        for ask in (lambda: Size(font, 3).letter("a").places(), lambda: cells([[(0, 0), (99, 0), (0, 99)]]),
                    lambda: Look(Program([("when", 1, 1, [("size",)])])).ends(),
                    lambda: shortenings(Program([("repeat", 0, [])]))):
            self.assertEqual(ask(), ask())
            self.assertIsNot(ask(), ask())


class Refusals(unittest.TestCase, Looks):
    def test_a_refusal_keeps_the_very_thing(self):
        font = Font(64, letters=[("a", Letter(OUTLINE))])
        kept = refusals() + [deep_thing(), [], {}]
        for thing in kept:
            for act in (lambda: Size(font, 1).letter(thing), lambda: Session(font).letter(thing, size=1),
                        lambda: Session(font).forget(size=thing), lambda: Desk().say(thing), lambda: read_font(thing),
                        lambda: show_font(thing), lambda: Look(thing), lambda: shortened(thing),
                        lambda: straight(thing, 1, size=1), lambda: Size(thing, 1)):
                with self.assertRaises((ValueError, KeyError)) as caught:
                    act()
                self.assertIs(caught.exception.found, thing)

    def test_nothing_is_refused_with_an_error_of_pythons_own(self):
        """Any things, many wrong at once."""
        font = Font(64, letters=[("a", Letter(OUTLINE))])
        things = no_things()
        for at, one in enumerate(things):
            other = things[(at * 7 + 3) % len(things)]
            acts = [lambda: Size(one, other, stack=other, budget=one), lambda: Size(font, 1, stack=one, budget=other),
                    lambda: Session(one, keep=other), lambda: Session(font, keep=one, stack=other),
                    lambda: Session(font).shapes(one, size=other), lambda: Session(font).letter(one, size=other),
                    lambda: cells(one, rule=other), lambda: cell_of(one, other, one, rule=other),
                    lambda: in_both(one, other), lambda: picture(one, full=other, bare=one),
                    lambda: gone_by(one, other, definitions=one),
                    lambda: gone_by(Program([]), one, definitions=other, size=one),
                    lambda: Look(one, definitions=other),
                    lambda: Look(Program([]), definitions=one, size=other), lambda: straight(one, other, size=one),
                    lambda: straight(font, one, size=other), lambda: shortened(one), lambda: read_font(one),
                    lambda: shortenings(other), lambda: show_font(one), lambda: Desk(keep=one, stack=other, budget=one),
                    lambda: Desk().say(one)]
            for act in acts:
                try:
                    act()
                except Exception as refusal:
                    self.assertEqual(type(refusal).__module__, "hintedpoints.errors", repr(refusal))

    def test_points_without_a_zone(self):
        self.assertRaises(NoPoint, Zone((), ()).now, 0)
        self.assertRaises(Missing, Made([("a", 0, 0)]).outline)
        self.assertTrue(issubclass(Unready, Missing))


class Files(unittest.TestCase):
    def test_all_files_of_the_interface_are_there(self):
        wanted = ["errors", "numbers", "ways", "rounds", "outlines", "turns", "words", "programs", "fonts", "zones",
                  "moves",
                  "machine", "sizes", "sessions", "cells", "look", "straight", "shorten", "fonttext", "desk"]
        for name in wanted:
            self.assertIn(name, FILES)
            importlib.import_module("hintedpoints." + name)

    def test_a_program_that_was_read_is_the_same(self):
        for seed in range(200):
            program = Program(Maker(seed).words(4, 2, ["a", "b"], 3, 8), names=["a", "b"])
            self.assertEqual(read_program(str(program), names=program.calls()), program)


if __name__ == "__main__":
    unittest.main()
