"""Each word of the machine: points 62 and 64 to 66."""

import unittest
from fractions import Fraction

from hintedpoints.machine import Machine
from hintedpoints.programs import Program
from hintedpoints.zones import Setting, Zone
from hintedpoints.moves import amid, crossing, far_by, far_from, lined, put_at, rested, settled, shifted
from tests.helpers import LONG_PART, MOST, Looks, number

PLACES = [(0, 0), (70, 10), (200, 100), (-50, 30), (70, 90), (5, 200)]
MADE_UP = [((1, 2), (3, 4)), ((5, 6), (7, 8)), ((9, 10), (11, 12)), ((13, 14), (15, 16))]
ZONE = Zone(PLACES, [2, 5], made_up=MADE_UP)
WORTHS = [80, (1, 2), -60]
STORE = [0, 11, 22, (33, 2), -44, 55, 66, 77]


def machine(**names):
    told = {"size": 12, "worths": WORTHS, "zone": ZONE, "store": STORE, **names}
    definitions = told.pop("definitions", {})
    return Machine(definitions, **told)


def pushed(*things):
    """Words that push these."""
    return [("push", thing) for thing in things]


class Stacks(unittest.TestCase, Looks):
    def stack_of(self, *words, **names):
        """The stack that these words leave."""
        told = machine(**names)
        self.assertEqual(told.run(Program(words)), len(words))
        self.assertEqual(told.trail(), list(words))
        self.assertEqual((told.store(), told.worths(), told.zone()), (STORE, WORTHS, ZONE))
        return told.stack()

    def left(self, things, *words):
        """What these words leave of these things."""
        return self.stack_of(*pushed(*things), *words)

    def test_words_of_the_stack(self):
        for number_pushed in (0, -7, (1, 2), MOST, LONG_PART, (-1, MOST)):
            self.assertEqual(self.stack_of(("push", number_pushed)), [number_pushed])
        self.assertEqual(self.stack_of(("height",), ("height",), ("height",)), [0, 1, 2])
        self.assertEqual(self.stack_of(("size",), size=200), [200])
        self.assertEqual(self.left([5, (1, 2)], ("copy",)), [5, (1, 2), (1, 2)])
        self.assertEqual(self.left([5, 6, 7], ("drop",)), [5, 6])
        self.assertEqual(self.left([5, 6, 7], ("swap",)), [5, 7, 6])
        self.assertEqual(self.left([5, 6, 7], ("pick", 1)), [5, 6, 7, 7])
        self.assertEqual(self.left([5, 6, 7], ("pick", 2)), [5, 6, 7, 6])
        self.assertEqual(self.left([1, 2, 3, 4, 5, 6, 7, 8, 9], ("pick", 8)), [1, 2, 3, 4, 5, 6, 7, 8, 9, 2])

    def test_words_that_reckon_with_two(self):
        values = [0, 1, -1, 3, 64, (1, 2), (-7, 3), (2, 3)]
        for one in values:
            for other in values:
                first, second = [Fraction(*each) if isinstance(each, tuple) else Fraction(each)
                                 for each in (one, other)]
                wanted = {"plus": first + second, "minus": first - second, "times": first * second,
                          "lesser": first < second, "greater": first > second, "same": first == second,
                          "both": first != 0 and second != 0, "either": first != 0 or second != 0}
                if second:
                    wanted["over"] = first / second
                for word, value in wanted.items():
                    told = self.left([9, one, other], (word,))
                    self.assertEqual(told, [9, number(value)], (one, word, other))
                    self.assertNotIsInstance(told[1], bool)

    def test_words_that_reckon_with_one(self):
        for one, negate, bare, floor, ceil, is_nought in [
                (0, 0, 0, 0, 0, 1), (1, -1, 1, 0, 64, 0), (-1, 1, 1, -64, 0, 0), (64, -64, 64, 64, 64, 0),
                (-64, 64, 64, -64, -64, 0), (65, -65, 65, 64, 128, 0), (-65, 65, 65, -128, -64, 0),
                ((129, 2), (-129, 2), (129, 2), 64, 128, 0), ((-1, 2), (1, 2), (1, 2), -64, 0, 0)]:
            for word, wanted in [("negate", negate), ("bare", bare), ("floor", floor), ("ceil", ceil),
                                 ("not", is_nought)]:
                self.assertEqual(self.left([9, one], (word,)), [9, wanted], (one, word))

    def test_words_of_the_store(self):
        for at, thing in enumerate(STORE):
            self.assertEqual(self.stack_of(("push", at), ("load",)), [thing])
        told = machine(store=None)
        told.run(Program([*pushed(9, (5, 2), 7), ("keep",), *pushed(8, 0), ("keep",), *pushed(7), ("load",)]))
        self.assertEqual((told.store(), told.stack()), ([8, 0, 0, 0, 0, 0, 0, (5, 2)], [9, (5, 2)]))

    def test_words_of_worths(self):
        for at, thing in enumerate(WORTHS):
            self.assertEqual(self.stack_of(("push", at), ("worth",)), [thing])
        told = machine()
        told.run(Program([*pushed(9, (5, 2), 2), ("setworth",), *pushed(8, 0), ("setworth",), *pushed(2), ("worth",)]))
        self.assertEqual((told.worths(), told.stack()), ([8, (1, 2), (5, 2)], [9, (5, 2)]))


class Points(unittest.TestCase, Looks):
    def zone_of(self, *words):
        """The zone that these words leave, and nothing on the stack."""
        told = machine()
        self.assertEqual(told.run(Program(words)), len(words))
        self.assertEqual(told.stack(), [])
        return told.zone()

    def measures(self, *words):
        told = machine()
        told.run(Program(words))
        return told.stack()

    def test_place_and_was(self):
        words = [*pushed(1, 30), ("shift",), *pushed(1), ("place",), *pushed(1), ("was",), *pushed(-2), ("place",),
                 *pushed(-2), ("was",)]
        self.assertEqual(self.measures(*words), [100, 70, 7, 5])
        self.assertEqual(self.measures(("way", 3, 4), *words), [80, 50, (53, 5), (39, 5)])
        self.assertEqual(self.measures(("measure", 0, 1), *words), [10, 10, 8, 6])
        self.assertEqual(self.measures(("move", 0, 1), *words), [70, 70, 7, 5])

    def test_at_first_the_setting_is_as_told(self):
        for word, act in [("settle", settled), ("far", far_from), ("line", lined), ("amid", amid)]:
            self.assertEqual(self.zone_of(*pushed(1), (word,)), act(ZONE, Setting(), 1)[0])

    def test_words_of_the_setting(self):
        ways = {"way": {"move": (-3, 4, 5), "along": (-3, 4, 5)}, "move": {"move": (-3, 4, 5)},
                "measure": {"along": (-3, 4, 5)}}
        for word, told in ways.items():
            wanted = settled(ZONE, Setting(**told), 4)[0]
            self.assertEqual(self.zone_of((word, -3, 4), *pushed(4), ("settle",)), wanted)
        for kind in ("grid", "half", "double", "down", "up", "off"):
            wanted = settled(ZONE, Setting(kind=kind), 4)[0]
            self.assertEqual(self.zone_of(("round", kind), *pushed(4), ("settle",)), wanted)
        wanted = settled(ZONE, Setting(kind=(48, (1, 2))), 4)[0]
        self.assertEqual(self.zone_of(*pushed(48, (1, 2)), ("period",), *pushed(4), ("settle",)), wanted)
        wanted = far_from(ZONE, Setting(least=500), 1)[0]
        self.assertEqual(self.zone_of(*pushed(500), ("least",), *pushed(1), ("far",)), wanted)
        wanted = far_by(ZONE, Setting(cutin=9), 1, 80)[0]
        self.assertEqual(self.zone_of(*pushed(9), ("cutin",), *pushed(1, 0), ("by",)), wanted)
        for lean in (5, -3):
            wanted = lined(ZONE, Setting(lean=lean), 1)[0]
            self.assertEqual(self.zone_of(*pushed(lean), ("lean",), *pushed(1), ("line",)), wanted)

    def test_hold(self):
        begun = shifted(ZONE, Setting(), 2, 50)[0]
        for holds in ((0, 2), (2, -4), (-4, 2)):
            wanted = amid(begun, Setting(holds=holds), 1)[0]
            words = [*pushed(2, 50), ("shift",), *pushed(*holds), ("hold",), *pushed(1), ("amid",)]
            self.assertEqual(self.zone_of(*words), wanted)

    def test_words_that_put(self):
        for worth, told in enumerate(WORTHS):
            for point in (1, 3, -2):
                self.assertEqual(self.zone_of(*pushed(point, worth), ("put",)),
                                 put_at(ZONE, Setting(), point, told)[0])
                self.assertEqual(self.zone_of(*pushed(point, worth), ("by",)), far_by(ZONE, Setting(), point, told)[0])
        words = [*pushed(-1, 0), ("put",), *pushed(1), ("far",)]
        zone, setting = put_at(ZONE, Setting(), -1, 80)
        self.assertEqual(self.zone_of(*words), far_from(zone, setting, 1)[0])

    def test_the_lean_is_the_point_that_was_settled_last(self):
        zone, setting = settled(ZONE, Setting(), 2)
        zone, setting = far_from(zone, setting, 1)
        self.assertEqual(setting.told()["lean"], 2)
        self.assertEqual(self.zone_of(*pushed(2), ("settle",), *pushed(1), ("far",), *pushed(3), ("line",)),
                         lined(zone, setting, 3)[0])

    def test_shift_across_and_rest(self):
        for way in ((1, 0, 1), (3, 4, 5)):
            zone, _ = shifted(ZONE, Setting(move=way), 1, (-7, 2))
            words = [("way", way[0], way[1]), *pushed(1, (-7, 2)), ("shift",)]
            self.assertEqual(self.zone_of(*words), zone)
            self.assertEqual(self.zone_of(*words, ("rest", "east")), rested(zone, "east"))
            self.assertEqual(self.zone_of(*words, ("rest", "north")), rested(zone, "north"))
            self.assertEqual(self.zone_of(*words, ("rest", "north"), ("rest", "east")),
                             rested(rested(zone, "north"), "east"))
        wanted = crossing(ZONE, Setting(), 5, a=0, b=1, c=2, d=-1)[0]
        self.assertEqual(self.zone_of(*pushed(5, 0, 1, 2, -1), ("across",)), wanted)

    def test_square_ways_matter_to_moves_to_a_measure_alone(self):
        ways = [("move", 1, 0), ("measure", 0, 1)]
        self.assertEqual(self.zone_of(*ways, *pushed(1, 5), ("shift",), *pushed(5, 0, 1, 2, -1), ("across",),
                                      ("rest", "east")).now(1), (75, 10))


class Blocks(unittest.TestCase, Looks):
    def done(self, words, stack, counted, **names):
        told = machine(**names)
        self.assertEqual(told.run(Program(words, names=["a", "b"])), counted)
        self.assertEqual(told.stack(), stack)
        return told

    def test_if(self):
        for thing, wanted in [(0, [9, 2]), (1, [9, 1]), (-1, [9, 1]), ((1, 2), [9, 1]), (MOST, [9, 1])]:
            told = self.done([*pushed(9, thing), ("if", pushed(1), pushed(2))], wanted, 4)
            self.assertEqual(told.trail(), [*pushed(9, thing), ("drop",), ("push", wanted[1])])
        self.done([*pushed(1), ("if", [], pushed(1, 2))], [], 2)
        self.done([*pushed(0), ("if", pushed(1, 2), [])], [], 2)

    def test_repeat(self):
        for many in (0, 1, 2, 19, 20):
            told = self.done([("repeat", many, pushed(5))], [5] * many, 1 + 2 * many)
            self.assertEqual(told.trail(), pushed(*[5] * many))
        self.done([("repeat", 20, [])], [], 21)
        self.done([*pushed(1), ("repeat", 3, [("copy",), ("plus",)])], [8], 1 + 1 + 3 * 3)
        told = self.done([("repeat", 2, [("repeat", 3, pushed(7))])], [7] * 6, 1 + 2 * (1 + 1 + 3 * 2))
        self.assertEqual(told.trail(), pushed(*[7] * 6))

    def test_when(self):
        for low, high, is_done in [(12, 12, True), (1, 200, True), (13, 200, False), (1, 11, False), (12, 200, True),
                                   (1, 12, True), (200, 1, False), (13, 11, False), (12, 11, False)]:
            told = self.done([("when", low, high, pushed(5))], [5] * is_done, 1 + is_done)
            self.assertEqual(told.trail(), pushed(5) * is_done)

    def test_call(self):
        definitions = {"a": Program(pushed(1)), "b": Program([("call", "a"), *pushed(2), ("call", "a")], names=["a"])}
        told = self.done([("call", "b"), *pushed(3), ("call", "a")], [1, 2, 1, 3, 1], 9, definitions=definitions)
        self.assertEqual(told.trail(), pushed(1, 2, 1, 3, 1))
        self.done([("call", "a")], [], 1, definitions={"a": Program([])})

    def test_a_setting_goes_on_through_blocks_and_calls(self):
        definitions = {"a": Program([("round", "off"), ("way", 0, 1)])}
        told = self.done([("call", "a"), ("repeat", 1, pushed(1)), ("settle",)], [], 3 + 3 + 1, definitions=definitions)
        self.assertEqual((told.zone().now(1), told.zone().touched(1)), ((70, 10), (False, True)))

    def test_nothing_is_counted_where_nothing_is_done(self):
        told = self.done([], [], 0)
        self.assertEqual((told.trail(), told.log()), ([], ["in", "out"]))


if __name__ == "__main__":
    unittest.main()
