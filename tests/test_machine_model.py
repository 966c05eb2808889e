"""Random programs, run by the machine and by a model of it: points 54 to 67."""

import random
import unittest

from hintedpoints.errors import Fault
from hintedpoints.machine import Machine
from hintedpoints.programs import Program
from hintedpoints.zones import Zone
from tests.model import Model, Stop, told

NUMBERS = [0, 0, 0, 1, -1, 2, 3, 5, 7, 32, 64, -64, 100, -30, (1, 2), (-7, 3), (129, 2), 33, 65]
MOST = 10 ** 60 - 1
WAYS = [(1, 0), (0, 1), (1, 0), (0, 1), (3, 4), (-4, 3), (-1, 0), (5, 12), (600, 800)]
KINDS = ["grid", "half", "double", "down", "up", "off"]
NAMES = ["a", "b", "c"]
FREE = ["copy", "drop", "swap", "plus", "minus", "times", "over", "over", "over", "lesser", "greater", "same", "both",
        "either", "negate", "bare", "floor", "ceil", "not", "height", "size"]


class Maker:
    """Makes random things."""

    def __init__(self, seed):
        self.chance = random.Random(seed)

    def number(self):
        if self.chance.random() < 0.02:
            return self.chance.choice([MOST, -MOST, (1, MOST), (MOST, MOST - 1)])
        return self.chance.choice(NUMBERS) if self.chance.random() < 0.6 else self.chance.randint(-400, 400)

    def place(self):
        return (self.number(), self.number())

    def point(self, many):
        if self.chance.random() < 0.03:
            return self.chance.choice([many, -5, (1, 2), MOST])
        if many == 0 or self.chance.random() < 0.1:
            return self.chance.randint(-4, -1)
        return self.chance.randint(0, many - 1)

    def listed(self, low, high):
        return self.chance.randint(low, high) if self.chance.random() < 0.98 else self.number()

    def moving(self, many, worths):
        """Some words that move a point, with what they take."""
        name = self.chance.choice(["settle", "put", "far", "by", "line", "amid", "shift", "across", "place", "was",
                                   "lean", "hold"])
        things = {"put": 1, "by": 1, "shift": 1, "hold": 1, "across": 4}.get(name, 0)
        words = [("push", self.point(many))]
        for _ in range(things):
            thing = self.point(many)
            if name in ("put", "by"):
                thing = self.listed(0, max(worths - 1, 0))
            if name == "shift":
                thing = self.number()
            words.append(("push", thing))
        return words + [(name,)]

    def setting(self):
        a, b = self.chance.choice(WAYS)
        name = self.chance.choice(["way", "way", "measure", "move", "round", "period", "least", "cutin", "rest",
                                   "rest"])
        if name in ("way", "measure", "move"):
            return [(name, a, b)]
        if name == "round":
            return [("round", self.chance.choice(KINDS))]
        if name == "rest":
            return [("rest", self.chance.choice(["east", "north"]))]
        if name == "period":
            return [("push", self.chance.choice([64, 48, (7, 3)])), ("push", self.chance.choice([0, 2, (1, 2), 48])),
                    ("period",)]
        return [("push", self.chance.choice([0, 1, 20, 64, 100, -1, (1, 2)])), (name,)]

    def keeping(self, worths):
        name = self.chance.choice(["load", "keep", "worth", "setworth"])
        high = 7 if name in ("load", "keep") else max(worths - 1, 0)
        ahead = [("push", self.number())] if name in ("keep", "setworth") else []
        return ahead + [("push", self.listed(0, high)), (name,)]

    def reckoning(self):
        """A word that takes what was put ahead of it, mostly."""
        many = self.chance.choice([2, 2, 2, 2, 2, 2, 1, 0])
        word = (self.chance.choice(FREE),) if self.chance.random() < 0.9 else ("pick", self.chance.randint(1, many + 1))
        return [("push", self.number()) for _ in range(many)] + [word]

    def words(self, many, worths, names, deep, length):
        told_words = []
        while len(told_words) < length:
            kind = self.chance.random()
            if kind < 0.35:
                told_words += self.moving(many, worths)
            elif kind < 0.55:
                told_words += self.setting()
            elif kind < 0.65:
                told_words += self.keeping(worths)
            elif kind < 0.75:
                told_words.append(("push", self.number()))
            elif kind < 0.85:
                told_words += self.reckoning()
            elif deep and kind < 0.97:
                told_words += self.led(many, worths, names, deep - 1)
            elif names:
                told_words.append(("call", self.chance.choice(names)))
        return told_words

    def led(self, many, worths, names, deep):
        blocks = [self.words(many, worths, names, deep, self.chance.randint(0, 4)) for _ in (0, 1)]
        kind = self.chance.randint(0, 2)
        if kind == 0:
            return [("push", self.chance.choice([0, 1])), ("if", *blocks)]
        if kind == 1:
            return [("repeat", self.chance.choice([0, 1, 2, 3, 20]), blocks[0])]
        return [("when", self.chance.randint(1, 40), self.chance.randint(1, 40), blocks[0])]

    def ends(self, many):
        if not many:
            return []
        return sorted(self.chance.sample(range(many - 1), min(many - 1, self.chance.randint(0, 3)))) + [many - 1]


class Random(unittest.TestCase):
    def same(self, machine, model, many):
        zone = machine.zone()
        self.assertEqual(machine.stack(), [told(each) for each in model.stack])
        self.assertEqual(machine.store(), [told(each) for each in model.store])
        self.assertEqual(machine.worths(), [told(each) for each in model.worths])
        self.assertEqual(machine.trail(), model.trail)
        for at in range(-4, many):
            point = model.points[at]
            self.assertEqual(zone.first(at), tuple(told(each) for each in point["first"]))
            self.assertEqual(zone.now(at), tuple(told(each) for each in point["now"]))
            self.assertEqual(zone.touched(at), point["touched"])

    def state(self, machine):
        return (machine.store(), machine.worths(), machine.zone(), machine.stack(), machine.trail())

    def once(self, seed):
        """One machine and two programs; tells whether the last one was refused."""
        maker = Maker(seed)
        chance = maker.chance
        many, size = chance.choice([0, 1, 4, 9, 20]), chance.randint(1, 40)
        worths = [maker.number() for _ in range(chance.choice([0, 1, 2, 3, 4, 4, 4, 12]))]
        store = [maker.number() for _ in range(8)]
        places = [maker.place() for _ in range(many)]
        made_up = [(maker.place(), maker.place()) for _ in range(4)]
        ends = maker.ends(many)
        limits = {"stack": chance.choice([6, 24, 100]), "budget": chance.choice([60, 400])}
        blocks = {}
        for name in NAMES:
            blocks[name] = maker.words(many, len(worths), list(blocks), 1, 3)
        definitions = {name: Program(words, names=NAMES) for name, words in blocks.items()}
        words = maker.words(many, len(worths), NAMES, 2, chance.choice([3, 8, 20, 60]))
        machine = Machine(definitions, size=size, worths=worths, zone=Zone(places, ends, made_up=made_up), store=store,
                          **limits)
        before = self.state(machine)
        model = Model(blocks, size, worths, places, ends, made_up, store, limits["stack"], limits["budget"])
        try:
            model.words(words)
        except Stop as stop:
            with self.assertRaises(Fault) as caught:
                machine.run(Program(words, names=NAMES))
            self.assertEqual((caught.exception.done, caught.exception.why), stop.args)
            self.assertEqual(self.state(machine), before)
            self.assertEqual(machine.log(), ["in", "out"])
            return stop.args[1]
        self.assertEqual(machine.run(Program(words, names=NAMES)), model.done)
        self.same(machine, model, many)
        self.again(machine, before, limits, size)
        return "end"

    def again(self, machine, before, limits, size):
        """Does a program of the trail's words do just the same?"""
        store, worths, zone, _, _ = before
        other = Machine({}, size=size, worths=worths, zone=zone, store=store, **limits)
        self.assertEqual(other.run(Program(machine.trail())), len(machine.trail()))
        self.assertEqual(self.state(other), self.state(machine))

    def test_random_programs(self):
        seen = {}
        for seed in range(1500):
            with self.subTest(seed=seed):
                why = self.once(seed)
                seen[why] = seen.get(why, 0) + 1
        for why in ("end", "budget", "lack", "whole", "point", "store", "worth", "nought", "round", "least", "square",
                    "lines", "great", "full"):
            self.assertGreater(seen.get(why, 0), 1, (why, seen))


if __name__ == "__main__":
    unittest.main()
