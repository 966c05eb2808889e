"""Random programs, run by the machine and by a model of it: points 54 to 67."""

import unittest

from hintedpoints.errors import Fault
from hintedpoints.machine import Machine
from hintedpoints.programs import Program
from hintedpoints.zones import Zone
from tests.makers import NAMES, Maker
from tests.model import Model, Stop, told


class Random(unittest.TestCase):
    def same(self, machine, model, many):
        zone = machine.zone()
        self.assertEqual(machine.stack(), [told(each) for each in model.stack])
        self.assertEqual(machine.store(), [told(each) for each in model.store])
        self.assertEqual(machine.worths(), [told(each) for each in model.worths])
        self.assertEqual(machine.trail(), model.trail)
        for at in range(-4, many):
            point = model.points[at]
            self.assertEqual(zone.first(at), tuple(told(each) for each in point["first"]))
            self.assertEqual(zone.now(at), tuple(told(each) for each in point["now"]))
            self.assertEqual(zone.touched(at), point["touched"])

    def state(self, machine):
        return (machine.store(), machine.worths(), machine.zone(), machine.stack(), machine.trail())

    def once(self, seed):
        """One machine and two programs; tells whether the last one was refused."""
        maker = Maker(seed)
        chance = maker.chance
        many, size = chance.choice([0, 1, 4, 9, 20]), chance.randint(1, 40)
        worths = [maker.number() for _ in range(chance.choice([0, 1, 2, 3, 4, 4, 4, 12]))]
        store = [maker.number() for _ in range(8)]
        places = [maker.place() for _ in range(many)]
        made_up = [(maker.place(), maker.place()) for _ in range(4)]
        ends = maker.ends(many)
        limits = {"stack": chance.choice([6, 24, 100]), "budget": chance.choice([60, 400])}
        blocks = {}
        for name in NAMES:
            blocks[name] = maker.words(many, len(worths), list(blocks), 1, 3)
        definitions = {name: Program(words, names=NAMES) for name, words in blocks.items()}
        words = maker.words(many, len(worths), NAMES, 2, chance.choice([3, 8, 20, 60]))
        machine = Machine(definitions, size=size, worths=worths, zone=Zone(places, ends, made_up=made_up), store=store,
                          **limits)
        before = self.state(machine)
        model = Model(blocks, size, worths, places, ends, made_up, store, limits["stack"], limits["budget"])
        try:
            model.words(words)
        except Stop as stop:
            with self.assertRaises(Fault) as caught:
                machine.run(Program(words, names=NAMES))
            self.assertEqual((caught.exception.done, caught.exception.why), stop.args)
            self.assertEqual(self.state(machine), before)
            self.assertEqual(machine.log(), ["in", "out"])
            return stop.args[1]
        self.assertEqual(machine.run(Program(words, names=NAMES)), model.done)
        self.same(machine, model, many)
        self.again(machine, before, limits, size)
        return "end"

    def again(self, machine, before, limits, size):
        """Does a program of the trail's words do just the same?"""
        store, worths, zone, _, _ = before
        other = Machine({}, size=size, worths=worths, zone=zone, store=store, **limits)
        self.assertEqual(other.run(Program(machine.trail())), len(machine.trail()))
        self.assertEqual(self.state(other), self.state(machine))

    def test_random_programs(self):
        seen = {}
        for seed in range(1500):
            with self.subTest(seed=seed):
                why = self.once(seed)
                seen[why] = seen.get(why, 0) + 1
        for why in ("end", "budget", "lack", "whole", "point", "store", "worth", "nought", "round", "least", "square",
                    "lines", "great", "full"):
            self.assertGreater(seen.get(why, 0), 1, (why, seen))


if __name__ == "__main__":
    unittest.main()
