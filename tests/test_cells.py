"""Cells: points 76 to 79."""

import random
import unittest
from fractions import Fraction
from itertools import groupby

from hintedpoints.cells import cell_of, cells, in_both, picture
from hintedpoints.errors import NoCells, NoNumber, NoParts, NoPlace, NoText, TooMany
from tests.helpers import LONG_PART, MOST, Looks, exact, no_numbers, no_things, number, objects
from tests.test_turns import no_parts, no_places, no_polygons


def box(west, south, east, north):
    """A polygon to the left, once around a box."""
    return [(west, south), (east, south), (east, north), (west, north)]


def crossings(parts, row):
    """The crossings of a row's line: (x, whether it goes up), by fractions."""
    line, found = 64 * row + 32, []
    for polygon in parts:
        for (x, y), (to_x, to_y) in zip(polygon, polygon[1:] + polygon[:1]):
            x, y, to_x, to_y = map(exact, (x, y, to_x, to_y))
            if (y > line) != (to_y > line):
                found.append((x + (to_x - x) * (line - y) / (to_y - y), to_y > line))
    return found


def stretches(parts, row, rule):
    """The stretches of a row: it is asked amid any two crossings what is within."""
    found = crossings(parts, row)
    xs = sorted({x for x, _ in found})
    within = []
    for west, east in zip(xs, xs[1:]):
        ahead = [up for x, up in found if x <= west]
        if (len(ahead) % 2 == 1) if rule == "odd" else (sum(ahead) * 2 != len(ahead)):
            if within and within[-1][1] == west:
                within[-1] = (within[-1][0], east)
            else:
                within.append((west, east))
    return within


def filled(parts, row, columns, rule, drops):
    """How each column's cell of a row is filled: "in", "drop" or "out", with the stretch."""
    told = {column: ("out",) for column in columns}
    for enter, leave in stretches(parts, row, rule):
        middles = [column for column in columns if enter <= 64 * column + 32 < leave]
        for column in middles:
            told[column] = ("in", number(enter), number(leave))
        if not middles and drops:
            best = min(columns, key=lambda column: (abs(64 * column + 32 - (enter + leave) / 2), column))
            if told[best] == ("out",):
                told[best] = ("drop", number(enter), number(leave))
    return told


def spans_of(told, row):
    """The spans of a row of which it is told how its cells are filled."""
    found = []
    for is_filled, group in groupby(sorted(told), key=lambda column: told[column] != ("out",)):
        if is_filled:
            columns = list(group)
            found.append((row, columns[0], columns[-1] + 1))
    return found


class Crossings(unittest.TestCase):
    def test_a_box(self):
        self.assertEqual(cells([box(0, 0, 64, 64)]), [(0, 0, 1)])
        self.assertEqual(cells([box(0, 0, 192, 128)]), [(0, 0, 3), (1, 0, 3)])
        self.assertEqual(cells([box(-128, -64, -64, 0)]), [(-1, -2, -1)])

    def test_below_nought(self):
        there = [box(-200, -200, -33, -95)]
        self.assertEqual(cells(there), [(-3, -3, -1), (-2, -3, -1)])
        self.assertEqual(cell_of(there, -2, -3), ("in", -200, -33))
        self.assertEqual(cell_of(there, -1, -3), ("out",))
        self.assertEqual(cells([box(-200, -200, -33, -96)]), [(-3, -3, -1)])

    def test_an_edge_along_a_line_doesnt_cross_it(self):
        # The line of row 0 is at 32: a place on it isn't above it.
        self.assertEqual(cells([box(0, 32, 64, 96)]), [(0, 0, 1)])
        self.assertEqual(cells([box(0, 33, 64, 96)]), [])
        self.assertEqual(cells([box(0, -31, 64, 32)]), [])
        self.assertEqual(cells([box(0, -32, 64, 32)]), [(-1, 0, 1)])
        self.assertEqual(cells([box(0, -31, 64, (65, 2))]), [(0, 0, 1)])

    def test_ends_on_a_line(self):
        diamond = [(32, -32), (96, 32), (32, 96), (-32, 32)]
        self.assertEqual(cells([diamond]), [(0, -1, 1)])
        self.assertEqual(cell_of([diamond], 0, -1), ("out",))
        self.assertEqual(cell_of([diamond], 0, 0), ("in", -32, 96))
        self.assertEqual(cell_of([diamond], -1, 0), ("in", -32, 96))
        self.assertEqual(cell_of([diamond], 1, 0), ("out",))
        self.assertEqual(cell_of([diamond], 0, 1), ("out",))
        notch = [(0, 0), (128, 0), (128, 64), (64, 32), (0, 64)]
        # The notch ends on the line: no two stretches of a row touch, so here is one.
        self.assertEqual(cell_of([notch], 0, 0), ("in", 0, 128))
        self.assertEqual(cell_of([notch], 1, 0), ("in", 0, 128))
        notch[3] = (64, 31)
        self.assertEqual(cell_of([notch], 0, 0), ("in", 0, (2048, 33)))
        self.assertEqual(cell_of([notch], 1, 0), ("in", (2176, 33), 128))

    def test_no_edges(self):
        self.assertEqual(cells([[(5, 5)]]), [])
        self.assertEqual(cells([[(5, 5)] * 100]), [])
        self.assertEqual(cells([[(0, 0), (100, 100)]]), [])
        self.assertEqual(cell_of([[(0, 0), (100, 100)]], 0, 0), ("out",))


class Stretches(unittest.TestCase):
    def test_rules_differ(self):
        twice = [box(0, 0, 192, 64), box(64, 0, 128, 64)]
        self.assertEqual(cells(twice), [(0, 0, 3)])
        self.assertEqual(cells(twice, rule="round"), [(0, 0, 3)])
        self.assertEqual(cells(twice, rule="odd"), [(0, 0, 1), (0, 2, 3)])
        hole = [box(0, 0, 192, 64), box(64, 0, 128, 64)[::-1]]
        for rule in ("round", "odd"):
            self.assertEqual(cells(hole, rule=rule), [(0, 0, 1), (0, 2, 3)])

    def test_what_is_within_goes_on_where_one_box_ends_and_another_begins(self):
        beside = [box(0, 0, 40, 64), box(40, 0, 90, 64)]
        for rule in ("round", "odd"):
            self.assertEqual(cell_of(beside, 0, 0, rule=rule), ("in", 0, 90))
        self.assertEqual(cell_of([box(0, 0, 40, 64), box(40, 0, 90, 64)[::-1]], 0, 0), ("in", 0, 90))

    def test_two_boxes_on_one_another(self):
        self.assertEqual(cell_of([box(0, 0, 64, 64)] * 2, 0, 0), ("in", 0, 64))
        self.assertEqual(cell_of([box(0, 0, 64, 64)] * 2, 0, 0, rule="odd"), ("out",))
        self.assertEqual(cells([box(0, 0, 64, 64), box(0, 0, 64, 64)[::-1]]), [])
        self.assertEqual(cells([box(0, 0, 64, 64)] * 3, rule="odd"), [(0, 0, 1)])

    def test_enter_and_leave_just_on_a_middle(self):
        self.assertEqual(cells([box(32, 0, 96, 64)]), [(0, 0, 1)])
        self.assertEqual(cells([box((65, 2), 0, 96, 64)], drops=False), [])
        self.assertEqual(cells([box(32, 0, (193, 2), 64)]), [(0, 0, 2)])
        self.assertEqual(cell_of([box(32, 0, 96, 64)], 0, 0), ("in", 32, 96))
        self.assertEqual(cell_of([box(32, 0, 96, 64)], 1, 0), ("out",))


class Drops(unittest.TestCase):
    def test_between_two_middles(self):
        for west, east, column in ((33, 35, 0), (90, 95, 1), (60, 67, 0), (60, 68, 0), (60, 69, 1), (63, 65, 0),
                                   ((127, 2), (129, 2), 0), (-31, -30, -1), (-4, 4, -1), (-3, 4, 0), (33, 96, 1),
                                   (33, 95, 0)):
            thin = [box(west, 0, east, 64)]
            self.assertEqual(cells(thin), [(0, column, column + 1)], (west, east))
            self.assertEqual(cells(thin, drops=True), [(0, column, column + 1)])
            self.assertEqual(cells(thin, drops=False), [])
            self.assertEqual(cell_of(thin, column, 0), ("drop", west, east))
            self.assertEqual(cell_of(thin, column, 0, drops=False), ("out",))
            for other in (column - 1, column + 1):
                self.assertEqual(cell_of(thin, other, 0), ("out",))

    def test_a_drop_in_a_cell_that_is_filled(self):
        parts = [box(0, 0, 40, 64), box(45, 0, 50, 64)]
        self.assertEqual(cells(parts), [(0, 0, 1)])
        self.assertEqual(cell_of(parts, 0, 0), ("in", 0, 40))
        parts = [box(34, 0, 40, 64), box(45, 0, 50, 64), box(52, 0, 70, 64)]
        self.assertEqual(cells(parts), [(0, 0, 1)])
        self.assertEqual(cell_of(parts, 0, 0), ("drop", 34, 40))
        parts = [box(45, 0, 50, 64), box(70, 0, 97, 64), box(100, 0, 101, 64), box(170, 0, 172, 64)]
        self.assertEqual(cells(parts), [(0, 0, 3)])
        self.assertEqual(cell_of(parts, 1, 0), ("in", 70, 97))
        self.assertEqual(cell_of(parts, 2, 0), ("drop", 170, 172))
        parts = [box(0, 0, 64, 64), box(192, 0, 256, 64), box(258, 0, 280, 64), box(300, 0, 420, 64)]
        self.assertEqual(cells(parts), [(0, 0, 1), (0, 3, 7)])
        self.assertEqual(cells(parts, drops=False), [(0, 0, 1), (0, 3, 4), (0, 5, 7)])

    def test_letters_side_by_side_have_no_cell_in_common_but_by_drops(self):
        one, other = [box(0, 0, 100, 200)], [box(100, 0, 170, 200)]
        self.assertEqual(in_both(cells(one), cells(other)), [])
        slants = [[(0, 0), (70, 0), (170, 300), (100, 300)], [(70, 0), (150, 0), (250, 300), (170, 300)]]
        self.assertEqual(in_both(cells(slants[:1]), cells(slants[1:])), [])
        thin = [[box(40, 0, 50, 64)], [box(50, 0, 60, 64)]]
        self.assertEqual(in_both(cells(thin[0]), cells(thin[1])), [(0, 0, 1)])
        self.assertEqual(in_both(cells(thin[0], drops=False), cells(thin[1], drops=False)), [])


class Random(unittest.TestCase):
    def place(self, chance):
        def one():
            if chance.random() < 0.4:
                return chance.choice([-64, -32, 0, 32, 64, 96, 128, 160])
            return number(Fraction(chance.randint(-300, 300), chance.choice([1, 1, 2, 3])))
        return (one(), one())

    def test_as_fractions_tell(self):
        drops_told = 0
        for seed in range(250):
            chance = random.Random(seed)
            parts = [[self.place(chance) for _ in range(chance.randint(1, 8))] for _ in range(chance.randint(1, 4))]
            rule, drops = chance.choice(["round", "odd"]), chance.random() < 0.7
            wanted, columns = [], range(-8, 8)
            for row in range(-7, 7):
                told = filled(parts, row, columns, rule, drops)
                wanted += spans_of(told, row)
                for column in chance.sample(columns, 4):
                    found = cell_of(parts, column, row, rule=rule, drops=drops)
                    self.assertEqual(found, told[column], (seed, column, row))
                    drops_told += found[0] == "drop"
            self.assertEqual(cells(parts, rule=rule, drops=drops), wanted, seed)
        self.assertGreater(drops_told, 50)

    def test_long_numbers(self):
        for far in (MOST, -MOST, LONG_PART):
            parts = [box(0, 0, 64, 64) + [(far, far)]]
            for row in (-1, 0, 1, 10 ** 50):
                told = stretches(parts, row, "round")
                wanted = ("out",)
                for enter, leave in told:
                    if enter <= 32 < leave:
                        wanted = ("in", number(enter), number(leave))
                found = cell_of(parts, 0, row, drops=False)
                self.assertEqual(found, wanted, (far, row))


class Cells(unittest.TestCase, Looks):
    def test_kinds_of_values(self):
        found = cells(parts=(tuple(box(0, 0, 64, 64)),), drops=True, rule="round")
        self.assertEqual(found, [(0, 0, 1)])
        self.assertIs(type(found), list)
        self.assertIs(type(found[0]), tuple)
        self.assertEqual([type(each) for each in found[0]], [int] * 3)
        parts = [box(0, 0, 64, 64)]
        cells(parts)
        self.assertEqual(parts, [box(0, 0, 64, 64)])

    def test_refused_parts(self):
        for act, more in ((cells, ()), (cell_of, (None, None))):
            for thing in no_parts():
                if not (isinstance(thing, (list, tuple)) and 1 <= len(thing) <= 4):
                    self.refused(NoParts, thing, act, thing, *more, rule=None)
            for thing in no_polygons():
                self.refused(NoParts, thing, act, [[(0, 0)], thing], *more, rule=None)
            for thing in no_places():
                self.refused(NoPlace, thing, act, [[(0, 0), thing, None], []], *more, rule=None)

    def test_refused_rules(self):
        for thing in no_things() + ["Round", "even", 1, ("round",), ["odd"]]:
            self.refused(NoCells, thing, cells, [box(0, 0, 1, 99999)], rule=thing)
            self.refused(NoCells, thing, cell_of, [box(0, 0, 1, 1)], 1, 1, rule=thing)

    def test_refused_columns_and_rows(self):
        for thing in no_numbers() + [(1, 2)]:
            self.refused(NoNumber, thing, cell_of, [box(0, 0, 1, 1)], thing, None, rule=None)
            self.refused(NoNumber, thing, cell_of, [box(0, 0, 1, 1)], row=thing, column=1, rule=None)
        for thing in (MOST, -MOST):
            self.assertEqual(cell_of([box(0, 0, 1, 1)], column=thing, row=thing, drops=False), ("out",))

    def test_four_hundred_rows(self):
        self.assertEqual(len(cells([box(0, 0, 64, 64 * 400)])), 400)
        self.assertEqual(len(cells([box(0, 32, 64, 64 * 400 + 32)])), 400)
        self.assertEqual(len(cells([box(0, -32 - 64 * 200, 64, 64 * 200 - 32)])), 400)
        self.refused_at(TooMany, {"many": 401}, cells, [box(0, 32, 64, 64 * 400 + 33)])
        self.refused_at(TooMany, {"many": 401}, cells, [box(0, 0, 64, 64), [(5, 64 * 401)]])
        self.refused_at(TooMany, {"many": 401}, cells, [box(0, 0, 0, 64 * 401)])
        self.refused_at(TooMany, {"many": 2 * 10 ** 10}, cells, [[(0, -64 * 10 ** 10), (1, 64 * 10 ** 10)]])
        self.assertEqual(cells([box(-MOST, 0, MOST, 1)]), [])

    def test_many_edges_over_many_rows(self):
        parts = [[(7 * at + 3 * turn, 25600 * (at % 2)) for at in range(100)] for turn in range(4)]
        found = cells(parts, rule="odd")
        wanted = spans_of(filled(parts, 200, range(-2, 14), "odd", True), 200)
        self.assertEqual([span for span in found if span[0] == 200], wanted)


def no_spans():
    """Things that are no lists of spans."""
    bad = [None, True, 0, (0, 1), (0, 1, 1), (0, 2, 1), (0, 1, 2, 3), [0, 1, 2], (True, 1, 2), (0, False, 1),
           (0, 0, True),
           ((1, 2), 0, 1), (0, "0", 1), (0, None, 1), (0, 1, (5, 2)), "abc"]
    return [None, True, False, 0, 1, "", "x", {}, {(0, 0, 1): 1}, (0, 0, 1), [[(0, 0, 1)]]] + objects() + [
        [thing] for thing in bad] + [[(0, 0, 1), thing] for thing in bad] + [
        [(0, 0, 1), (0, 1, 2)], [(0, 0, 2), (0, 1, 3)], [(0, 3, 4), (0, 0, 1)], [(1, 0, 1), (0, 0, 1)],
        [(0, 0, 1), (0, 0, 1)], ((0, 0, 1), (0, 1, 2)), [(0, 0, 9), (0, 3, 4)]]


class Spans(unittest.TestCase, Looks):
    def test_in_both(self):
        one = [(-1, 0, 3), (0, -5, 5), (2, 0, 1), (2, 3, 9)]
        other = [(-2, 0, 9), (0, -9, -5), (0, -4, -2), (0, 0, 9), (2, 1, 3), (2, 4, 5), (2, 6, 20)]
        wanted = [(0, -4, -2), (0, 0, 5), (2, 4, 5), (2, 6, 9)]
        self.assertEqual(in_both(one, other), wanted)
        self.assertEqual(in_both(others=tuple(one), spans=tuple(other)), wanted)
        self.assertIs(type(in_both((), ())), list)
        self.assertEqual(in_both(one, one), one)
        self.assertEqual(in_both(one, []), [])

    def random_spans(self, chance):
        told = {(row, column) for row in range(-2, 3) for column in range(-3, 12) if chance.random() < 0.6}
        found = []
        for row in range(-2, 3):
            found += spans_of({column: ("in",) if (row, column) in told else ("out",) for column in range(-3, 12)}, row)
        return told, found

    def test_random_spans(self):
        for seed in range(200):
            chance = random.Random(seed)
            (one, spans), (other, others) = self.random_spans(chance), self.random_spans(chance)
            both = one & other
            wanted = []
            for row in range(-2, 3):
                wanted += spans_of({column: ("in",) if (row, column) in both else ("out",) for column in range(-3, 12)},
                                   row)
            self.assertEqual(in_both(spans, others), wanted)
            rows = picture(spans).split("\n")
            west, north = min(column for _, column in one), max(row for row, _ in one)
            seen = {(north - down, west + at) for down, row in enumerate(rows) for at, sign in enumerate(row)
                    if sign == "x"}
            self.assertEqual(seen, one)

    def test_in_both_refused(self):
        for thing in no_spans():
            self.refused(NoCells, thing, in_both, thing, None)
            self.refused(NoCells, thing, in_both, [(0, 0, 1)], thing)

    def test_spans_that_were_told_may_be_handed_in(self):
        parts = [[(7 * at + 64 * (at // 2), 25600 * (at % 2)) for at in range(100)]]
        spans = cells(parts, drops=False)
        self.assertGreater(len(spans), 400)
        self.assertEqual(in_both(spans, spans), spans)

    def test_picture(self):
        self.assertEqual(picture([]), "")
        self.assertEqual(picture(()), "")
        self.assertEqual(picture([(5, 7, 9)]), "xx")
        self.assertEqual(picture([(-1, 0, 1), (0, -2, -1), (0, 1, 3), (2, 0, 1)]), "..x..\n.....\nx..xx\n..x..")
        self.assertEqual(picture(((0, 0, 1), (1, 1, 2)), bare="-", full="#"), "-#\n#-")
        self.assertEqual(picture(spans=[(0, 0, 1), (0, 2, 3)], full=" ", bare=" "), "   ")
        self.assertEqual(picture([(0, 0, 1), (0, 2, 3)], full="x", bare="x"), "xxx")

    def test_picture_refused(self):
        for thing in no_spans():
            self.refused(NoCells, thing, picture, thing, full=None, bare=None)
        for thing in no_things() + ["xx", 1, ("x",), ["x"]]:
            if thing != " ":
                self.refused(NoText, thing, picture, [(0, 0, 9000)], full=thing, bare=None)
                self.refused(NoText, thing, picture, [(0, 0, 9000)], bare=thing)
                self.refused(NoText, thing, picture, [], bare=thing, full="x")

    def test_eight_thousand_signs(self):
        self.assertEqual(picture([(0, 0, 8000)]), "x" * 8000)
        self.assertEqual(picture([(9, 70, 8070)]), "x" * 8000)
        self.refused_at(TooMany, {"many": 8001}, picture, [(9, -70, 7931)])
        self.assertEqual(len(picture([(50, 900, 901), (129, 999, 1000)])), 8000 + 79)
        self.refused_at(TooMany, {"many": 8001}, picture, [(0, 0, 8001)])
        self.assertEqual(len(picture([(0, 0, 1), (79, 99, 100)])), 8000 + 79)
        self.refused_at(TooMany, {"many": 8100}, picture, [(0, 0, 1), (80, 99, 100)])
        self.refused_at(TooMany, {"many": MOST * 2 * (MOST + 1)}, picture, [(0, -MOST, MOST), (MOST, 0, 1)])


if __name__ == "__main__":
    unittest.main()
