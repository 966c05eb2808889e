"""The machine: how it is made, what it refuses, its log and trail: points 61, 62 and 67."""

import unittest

from hintedpoints.errors import Fault, NoDefinition, NoLimit, NoNumber, NoProgram, NoSize, NoWorths, NoZone
from hintedpoints.machine import Machine
from hintedpoints.programs import Program
from hintedpoints.zones import Zone
from tests.helpers import LONG_PART, MOST, Looks, no_numbers, no_things, objects
from tests.test_fonts import calling
from tests.test_letters import no_programs

PLACES = [(0, 0), (70, 10), (200, 100)]
ZONE = Zone(PLACES, [2])
DROP = Program([("push", 1), ("drop",)])


def machine(definitions=None, **names):
    """A machine that has what isn't told."""
    told = {"size": 12, "worths": [80, (1, 2)], "zone": ZONE, **names}
    return Machine({} if definitions is None else definitions, **told)


def state(told):
    """All that a machine tells but its log."""
    return (told.store(), told.worths(), told.zone(), told.stack(), told.trail())


def program(*words):
    return Program(list(words), names=["a", "b", "c"])


class Made(unittest.TestCase, Looks):
    def test_it_tells_what_it_has(self):
        told = Machine({}, size=1, worths=[5, (-1, 2)], zone=ZONE)
        self.assertEqual(state(told), ([0] * 8, [5, (-1, 2)], ZONE, [], []))
        self.assertEqual((told.log(), told.at_rest()), ([], True))
        told = Machine(budget=400, stack=100, store=(1, 2, 3, 4, 5, 6, 7, (1, 8)), zone=Zone([], []), worths=(),
                       size=200, definitions={})
        self.assertEqual(state(told), ([1, 2, 3, 4, 5, 6, 7, (1, 8)], [], Zone([], []), [], []))
        for each in (told.store(), told.worths(), told.stack(), told.trail(), told.log()):
            self.assertIs(type(each), list)

    def test_bounds_are_counted(self):
        names = "abcdefgh"
        self.assertEqual(machine({name: DROP for name in names}).run(calling(*names)), 24)
        self.assertEqual(machine(worths=[LONG_PART] * 12).worths(), [LONG_PART] * 12)
        for size in (1, 200):
            told = machine(size=size)
            told.run(program(("size",)))
            self.assertEqual(told.stack(), [size])
        for stack in (1, 100):
            told = machine(stack=stack)
            told.run(program(*[("size",)] * stack))
            self.assertEqual(len(told.stack()), stack)
            self.refused_at(Fault, {"done": stack, "why": "full"}, told.run, program(*[("size",)] * (stack + 1)))
        for budget in (1, 400):
            told = machine(budget=budget)
            self.assertEqual(told.run(program(*[("round", "up")] * budget)), budget)
        self.refused_at(Fault, {"done": 1, "why": "budget"}, machine(budget=1).run, program(*[("round", "up")] * 2))

    def test_24_things_and_400_counted_where_nothing_is_told(self):
        told = machine()
        self.assertEqual(told.run(program(*[("size",)] * 24)), 24)
        self.refused_at(Fault, {"done": 24, "why": "full"}, told.run, program(*[("size",)] * 25))
        self.assertEqual(told.run(program(*[("round", "up")] * 400)), 400)
        words = program(("repeat", 20, [("round", "up")] * 20))
        self.refused_at(Fault, {"done": 400, "why": "budget"}, told.run, words)

    def test_it_keeps_copies_and_tells_new_lists(self):
        definitions, worths, store = {"a": DROP}, [1, 2], [0] * 8
        told = machine(definitions, worths=worths, store=store)
        definitions["b"] = DROP
        definitions.pop("a")
        worths.append(3)
        store[0] = 9
        self.assertEqual(state(told), ([0] * 8, [1, 2], ZONE, [], []))
        self.assertEqual(told.run(program(("call", "a"), ("size",), ("push", 0), ("push", 0), ("keep",))), 7)
        self.refused(NoDefinition, "b", told.run, program(("call", "b")))
        before = repr(state(told)[:2] + state(told)[3:])
        for each in (told.store(), told.worths(), told.stack(), told.trail(), told.log()):
            each.clear()
        told.store().append(1)
        self.assertEqual(repr(state(told)[:2] + state(told)[3:]), before)
        self.assertEqual((told.store(), told.worths(), told.stack()), ([0] * 8, [1, 2], [12]))
        self.assertEqual(told.log(), ["in", "out"])
        self.assertEqual((store, worths), ([9] + [0] * 7, [1, 2, 3]))

    def test_two_machines_have_nothing_in_common(self):
        store, worths = [0] * 8, [1, 2]
        one, two = machine(store=store, worths=worths), machine(store=store, worths=worths)
        one.run(program(("push", 5), ("push", 0), ("keep",), ("push", 7), ("push", 1), ("setworth",), ("push", 1),
                        ("settle",), ("size",)))
        self.assertEqual(state(two), ([0] * 8, [1, 2], ZONE, [], []))
        self.assertEqual((one.store(), one.worths()), ([5] + [0] * 7, [1, 7]))
        self.assertEqual((store, worths), ([0] * 8, [1, 2]))
        self.assertEqual((two.log(), ZONE), ([], Zone(PLACES, [2])))

    def test_two_orders_of_definitions(self):
        words = program(("call", "c"))
        one = machine({"a": DROP, "b": DROP, "c": calling("a", "b")})
        two = machine({"b": DROP, "a": DROP, "c": calling("a", "b")})
        self.assertEqual((one.run(words), state(one)), (two.run(words), state(two)))

    def test_definitions_each_of_which_calls_the_one_ahead(self):
        definitions = {"a": Program([within_blocks(5, ("size",))])}
        for ahead, name in zip("abcdefg", "bcdefgh"):
            definitions[name] = Program([within_blocks(5, ("call", ahead))], names=[ahead])
        told = machine(definitions)
        self.assertEqual(told.run(Program([within_blocks(5, ("call", "h"))], names=["h"])), 9 * 5 * 2 + 9)
        self.assertEqual(told.stack(), [12])


def within_blocks(deep, word):
    """A word within so many blocks, each of which is done once."""
    for _ in range(deep):
        word = ("repeat", 1, [word])
    return word


class Refused(unittest.TestCase, Looks):
    WRONG = {"size": None, "worths": None, "zone": None, "store": 1, "stack": None, "budget": None}

    def refused_all(self, kind, things, word):
        """Are these refused by this word, alone and with all that stands behind it wrong?"""
        words = list(self.WRONG)
        behind = {each: self.WRONG[each] for each in words[words.index(word) + 1:]}
        for thing in things:
            self.refused(kind, thing, machine, **{word: thing})
            self.refused(kind, thing, machine, **{**behind, word: thing})

    def test_definitions(self):
        names = "abcdefghi"
        bad = [thing for thing in no_things() if thing != {}] + [
            0, "a", [("a", DROP)], (("a", DROP),), {name: DROP for name in names}, {"A": DROP}, {"": DROP}, {1: DROP},
            {None: DROP}, {("a",): DROP}, {"a": None}, {"a": [("drop",)]}, {"a": "drop"}, {"a": DROP, "b": 1},
            {"abcdefghi": DROP}, {"a": calling("q"), "B": DROP}, {"a b": DROP}, {True: DROP}] + objects()
        for thing in bad:
            self.refused(NoProgram, thing, Machine, thing, size=1, worths=[], zone=ZONE)
            self.refused(NoProgram, thing, Machine, definitions=thing, **self.WRONG)

    def test_then_names_that_do_not_stand_ahead(self):
        for definitions, missing in [({"a": calling("a")}, "a"), ({"a": calling("b"), "b": DROP}, "b"),
                                     ({"a": DROP, "b": calling("a", "q", "z"), "c": calling("z")}, "q"),
                                     ({"a": DROP, "b": Program([("if", [], [("call", "c")])], names=["c"]),
                                       "c": DROP}, "c")]:
            self.refused(NoDefinition, missing, Machine, definitions, size=1, worths=[], zone=ZONE)
            self.refused(NoDefinition, missing, Machine, definitions, **self.WRONG)

    def test_then_the_size_worths_zone_and_store(self):
        self.refused_all(NoSize, no_numbers() + [0, -1, 201, (1, 2), (3, 2), MOST], "size")
        lists = [None, True, 0, "", "ab", {}, {0: 1}, [0] * 13, (0,) * 13, [None], [True], ["1"], [(2, 4)], [[1, 2]],
                 [1, 2, None], (1, False)] + objects()
        self.refused_all(NoWorths, lists, "worths")
        zones = [thing for thing in no_things() if not isinstance(thing, Zone)] + [PLACES, (PLACES, [2])]
        self.refused_all(NoZone, zones, "zone")
        store = [True, False, 0, "", "abcdefgh", {}, [], (), [0] * 7, [0] * 9, (0,) * 7, [0] * 7 + [None],
                 [0] * 7 + [True], [(2, 4)] + [0] * 7, {at: 0 for at in range(8)}, ["0"] * 8] + objects()
        self.refused_all(NoNumber, store, "store")

    def test_then_the_limits(self):
        self.refused_all(NoLimit, no_numbers() + [0, -1, 101, (1, 2), (3, 2), MOST], "stack")
        self.refused_all(NoLimit, no_numbers() + [0, -1, 401, (1, 2), (3, 2), MOST], "budget")

    def test_all_but_definitions_by_their_names_alone(self):
        self.assertRaises(TypeError, Machine, {}, 1, [], ZONE)
        self.assertRaises(TypeError, Machine, {}, size=1, worths=[])

    def test_a_run_of_what_is_no_program(self):
        told = machine({"a": DROP})
        for thing in no_programs() + [None]:
            self.refused(NoProgram, thing, told.run, thing)
            self.refused(NoProgram, thing, told.run, program=thing)
        self.assertEqual(told.log(), [])

    def test_then_of_what_calls_others(self):
        told = machine({"a": DROP})
        self.refused(NoDefinition, "b", told.run, program(("call", "a"), ("call", "b"), ("call", "c"), ("drop",)))
        self.refused(NoDefinition, "c", told.run, program(("when", 200, 1, [("call", "c")]), ("call", "b")))
        self.assertEqual((told.log(), told.at_rest()), ([], True))
        self.assertEqual(state(told), state(machine()))


class Runs(unittest.TestCase, Looks):
    KEEPING = [("push", 5), ("push", 0), ("keep",), ("push", 7), ("push", 1), ("setworth",), ("push", 1), ("settle",),
               ("push", 100), ("push", 3)]

    def test_what_a_run_leaves_behind(self):
        told = machine()
        self.assertEqual(told.run(program(*self.KEEPING)), 10)
        self.assertEqual((told.store(), told.worths(), told.stack()), ([5] + [0] * 7, [80, 7], [100, 3]))
        self.assertEqual(told.zone().places(), [(0, 0), (64, 10), (200, 100)])
        self.assertEqual(told.zone().touched(1), (True, False))
        self.assertEqual(told.trail(), self.KEEPING)

    def test_the_next_run_begins_with_it_but_for_stack_and_setting(self):
        told = machine()
        told.run(program(*self.KEEPING, ("way", 0, 1), ("round", "up"), ("push", 1), ("lean",)))
        words = program(("height",), ("push", 0), ("load",), ("push", 1), ("worth",), ("push", 1), ("place",),
                        ("push", 2), ("settle",), ("push", 2), ("place",))
        self.assertEqual(told.run(program=words), 11)
        self.assertEqual(told.stack(), [0, 5, 7, 64, 192])
        self.assertEqual(told.zone().places(), [(0, 0), (64, 10), (192, 100)])
        self.assertEqual(told.trail(), words.words())
        self.assertEqual(told.run(program()), 0)
        self.assertEqual((told.stack(), told.trail()), ([], []))
        self.assertEqual(told.log(), ["in", "out"] * 3)

    def test_a_refused_run_leaves_all_as_it_was(self):
        told = machine()
        told.run(program(*self.KEEPING))
        before = state(told)
        zone = told.zone()
        lacking = [("push", 9), ("push", 0), ("keep",), ("push", 1), ("push", 30), ("shift",), ("drop",)]
        parted = [("push", 9), ("push", 0), ("setworth",), ("push", 2), ("settle",), ("push", -1), ("push", 0),
                  ("put",), ("push", 1), ("push", 0), ("over",)]
        for words, done, why in [(lacking, 6, "lack"), (parted, 10, "nought"), ([("drop",)], 0, "lack")]:
            self.refused_at(Fault, {"done": done, "why": why}, told.run, program(*words))
            self.assertEqual(state(told), before)
            self.assertEqual(told.zone(), zone)
            self.assertIs(told.at_rest(), True)
        self.assertEqual(told.log(), ["in", "out"] * 4)
        self.assertEqual(told.run(program(("push", 0), ("load",))), 2)
        self.assertEqual(told.stack(), [5])

    def test_the_log_has_both_ends_of_each_run_that_began(self):
        told = machine({"a": DROP})
        self.assertRaises(Fault, told.run, program(("drop",)))
        self.assertEqual(told.log(), ["in", "out"])
        self.assertRaises(NoProgram, told.run, None)
        self.assertRaises(NoDefinition, told.run, program(("call", "b")))
        self.assertEqual(told.log(), ["in", "out"])
        told.run(program(("call", "a")))
        self.assertEqual(told.log(), ["in", "out", "in", "out"])
        self.assertIs(told.at_rest(), True)

    def test_the_trail(self):
        told = machine({"a": program(("size",), ("push", 1))})
        words = program(("push", 1), ("if", [("call", "a"), ("if", [("drop",)], [])], [("copy",)]),
                        ("repeat", 2, [("push", (1, 2))]), ("when", 12, 12, [("height",)]),
                        ("when", 13, 99, [("size",)]), ("pick", 2), ("round", "half"))
        self.assertEqual(told.run(words), 17)
        trail = [("push", 1), ("drop",), ("size",), ("push", 1), ("drop",), ("drop",), ("push", (1, 2)),
                 ("push", (1, 2)), ("height",), ("pick", 2), ("round", "half")]
        self.assertEqual(told.trail(), trail)
        other = machine()
        self.assertEqual(other.run(Program(told.trail())), len(trail))
        self.assertEqual(state(other), state(told))

    def test_the_same_question_has_an_equal_answer(self):
        one, two = machine(), machine()
        for _ in range(3):
            self.assertEqual(one.run(program(*self.KEEPING)), two.run(program(*self.KEEPING)))
            self.assertEqual(state(one), state(two))
            self.assertEqual(state(one), state(one))


if __name__ == "__main__":
    unittest.main()
