"""A look ahead: points 81 to 84."""

import random
import unittest

from hintedpoints.errors import Fault, NoChoices, NoDefinition, NoLimit, NoProgram, NoSize
from hintedpoints.look import Look, gone_by
from hintedpoints.machine import Machine
from hintedpoints.programs import Program
from hintedpoints.zones import Zone
from tests.helpers import MOST, Looks, no_numbers, no_things, objects
from tests.test_sizes import no_sizes

TAKES = {"push": (0, 1), "height": (0, 1), "size": (0, 1), "copy": (1, 2), "drop": (1, 0), "swap": (2, 2),
         "plus": (2, 1), "keep": (2, 0), "across": (5, 0), "way": (0, 0), "rest": (0, 0), "not": (1, 1)}
UP, DOWN, STAY = ("height",), ("drop",), ("rest", "east")
CALLED = list("abcdefgh")


class Stop(Exception):
    """By what a way fails."""


class Short(Exception):
    """There are fewer or more truths than asks."""


class Going:
    """One way through words, told by itself."""

    def __init__(self, truths, definitions, size, most, budget):
        self.truths, self.asked, self.definitions, self.size = truths, 0, definitions, size
        self.most, self.budget = most, budget
        self.height = self.counted = self.top = 0
        self.done = set()

    def count(self, takes=0, puts=0):
        if self.counted >= self.budget:
            raise Stop("budget")
        if self.height < takes:
            raise Stop("lack")
        if self.height - takes + puts > self.most:
            raise Stop("full")

    def after(self, at, takes=0, puts=0):
        self.counted += 1
        self.height += puts - takes
        self.top = max(self.top, self.height)
        self.done.add(at)

    def truth(self):
        if self.asked == len(self.truths):
            raise Short()
        self.asked += 1
        return self.truths[self.asked - 1]

    def words(self, words, at):
        """Does words of which the first has a number; tells the number behind them all."""
        for word in words:
            at = self.word(word, at)

    def word(self, word, at):
        name, behind = word[0], at + how_many([word])
        if name == "if":
            self.count(1)
            block = word[1] if self.truth() else word[2]
            self.after(at, 1)
            self.words(block, at + 1 if block is word[1] else at + 1 + how_many(word[1]))
        elif name == "when":
            self.count()
            goes = self.truth() if self.size is None else word[1] <= self.size <= word[2]
            self.after(at)
            if goes:
                self.words(word[3], at + 1)
        elif name == "repeat":
            self.count()
            self.after(at)
            for _ in range(word[1]):
                self.count()
                self.after(None)
                self.words(word[2], at + 1)
        elif name == "call":
            self.count()
            self.after(at)
            self.words(self.definitions[word[1]], 10 ** 6)
        else:
            takes = (word[1], word[1] + 1) if name == "pick" else TAKES[name]
            self.count(*takes)
            self.after(at, *takes)
        return behind

    def whole(self, words):
        """The tuple that is told of the way, and the numbers of the words that it does."""
        try:
            self.words(words, 0)
            end = "end"
        except Stop as stop:
            end = stop.args[0]
        if self.asked < len(self.truths):
            raise Short()
        return (end, self.height, self.counted, self.top), self.done


def how_many(words):
    """How many words there are, those of blocks with them."""
    return sum(1 + sum(how_many(block) for block in word if isinstance(block, list)) for word in words)


def all_ways(words, definitions, size, most, budget, few=1500):
    """All ways: (truths, what is told, what is done); None where there are too many."""
    waiting, found = [[]], []
    while waiting:
        truths = waiting.pop()
        try:
            found.append((truths, *Going(truths, definitions, size, most, budget).whole(words)))
        except Short:
            waiting += [truths + [True], truths + [False]]
        if len(found) + len(waiting) > few:
            return None
    return found


class Maker:
    """Makes random programs."""

    def __init__(self, seed):
        self.chance = random.Random(seed)

    def plain(self):
        name = self.chance.choice(list(TAKES) + ["pick", "height", "height", "push", "copy"])
        more = {"push": (1,), "way": (1, 0), "rest": ("east",), "pick": (self.chance.randint(1, 3),)}
        return (name, *more.get(name, ()))

    def block(self, deep, names):
        return self.words(deep, names, self.chance.randint(0, 3))

    def words(self, deep, names, many):
        found = []
        for _ in range(many):
            kind = self.chance.random()
            if kind < 0.5 or (deep == 0 and kind < 0.85):
                found.append(self.plain())
            elif kind < 0.62:
                found.append(("if", self.block(deep - 1, names), self.block(deep - 1, names)))
            elif kind < 0.72:
                low, high = self.chance.randint(1, 4), self.chance.randint(1, 4)
                found.append(("when", low, high, self.block(deep - 1, names)))
            elif kind < 0.85:
                found.append(("repeat", self.chance.choice([0, 1, 2, 3, 5]), self.block(deep - 1, names)))
            elif names:
                found.append(("call", self.chance.choice(names)))
        return found


    def level(self, deep, names, many):
        """Words of which most ways end about as high as they began."""
        found = []
        for _ in range(many):
            kind = self.chance.randint(0, 4 if deep else 1)
            inner = self.level(deep - 1, names, self.chance.randint(0, 2)) if deep else []
            found += {
                0: [STAY], 1: [("when", 1, 2, [self.chance.choice([UP, DOWN])])], 2: [UP, ("if", inner, [STAY, STAY])],
                3: [("when", 1, 2, inner)], 4: [("repeat", self.chance.randint(1, 3), inner)],
            }[kind]
            if names and self.chance.random() < 0.2:
                found.append(("call", self.chance.choice(names)))
        return found


def program(*words):
    """A program of these words."""
    return Program(words, names=CALLED)


class GoneBy(unittest.TestCase):
    def test_without_asks(self):
        self.assertEqual(gone_by(program(), []), ("end", 0, 0, 0))
        self.assertEqual(gone_by(program(UP, UP, DOWN), ()), ("end", 1, 3, 2))
        self.assertEqual(gone_by(program(UP, ("copy",), ("plus",), ("swap",)), []), ("lack", 1, 3, 2))
        self.assertEqual(gone_by(program(UP, ("pick", 1), ("pick", 2), ("pick", 4)), []), ("lack", 3, 3, 3))

    def test_numbers_are_not_known(self):
        self.assertEqual(gone_by(program(("push", 0), ("push", 0), ("over",)), []), ("end", 1, 3, 2))
        self.assertEqual(gone_by(program(("push", 99), ("settle",)), []), ("end", 0, 2, 1))
        self.assertEqual(gone_by(program(("push", 0), ("if", [UP], [])), [True]), ("end", 1, 3, 1))

    def test_rounds_and_calls_are_counted(self):
        self.assertEqual(gone_by(program(("repeat", 3, [UP])), []), ("end", 3, 7, 3))
        self.assertEqual(gone_by(program(("repeat", 0, [UP])), []), ("end", 0, 1, 0))
        self.assertEqual(gone_by(program(("repeat", 20, [])), []), ("end", 0, 21, 0))
        told = {"a": program(UP), "b": program(("call", "a"), ("call", "a"))}
        self.assertEqual(gone_by(program(("call", "b"), UP), [], definitions=told), ("end", 3, 6, 3))

    def test_asks(self):
        words = program(UP, ("if", [UP, UP], [STAY]), ("when", 3, 5, [UP]))
        self.assertEqual(gone_by(words, [True, True]), ("end", 3, 6, 3))
        self.assertEqual(gone_by(words, [True, False]), ("end", 2, 5, 2))
        self.assertEqual(gone_by(words, (False, True)), ("end", 1, 5, 1))
        self.assertEqual(gone_by(words, [False], size=4), ("end", 1, 5, 1))
        self.assertEqual(gone_by(words, [False], size=3), ("end", 1, 5, 1))
        self.assertEqual(gone_by(words, [False], size=5), ("end", 1, 5, 1))
        self.assertEqual(gone_by(words, [False], size=6), ("end", 0, 4, 1))
        self.assertEqual(gone_by(words, [False], size=2), ("end", 0, 4, 1))

    def test_a_when_whose_low_is_above_its_high(self):
        words = program(("when", 5, 3, [UP]))
        self.assertEqual(gone_by(words, [True]), ("end", 1, 2, 1))
        self.assertEqual(gone_by(words, [False]), ("end", 0, 1, 0))
        for size in (2, 3, 4, 5, 6):
            self.assertEqual(gone_by(words, [], size=size), ("end", 0, 1, 0))

    def test_how_it_fails(self):
        self.assertEqual(gone_by(program(UP, UP, UP), [], stack=2), ("full", 2, 2, 2))
        self.assertEqual(gone_by(program(UP, UP, UP), [], stack=3), ("end", 3, 3, 3))
        self.assertEqual(gone_by(program(UP, UP, UP), [], budget=2), ("budget", 2, 2, 2))
        self.assertEqual(gone_by(program(UP, UP, UP), [], budget=3), ("end", 3, 3, 3))
        self.assertEqual(gone_by(program(*[UP] * 25), []), ("full", 24, 24, 24))
        self.assertEqual(gone_by(program(*[STAY] * 400), []), ("end", 0, 400, 0))
        self.assertEqual(gone_by(program(*[STAY] * 399, ("repeat", 1, [])), []), ("budget", 0, 400, 0))

    def test_the_first_fault_that_is_due(self):
        self.assertEqual(gone_by(program(UP, ("keep",)), [], budget=1), ("budget", 1, 1, 1))
        self.assertEqual(gone_by(program(UP, ("pick", 2)), [], stack=1), ("lack", 1, 1, 1))
        self.assertEqual(gone_by(program(UP, UP), [], stack=1, budget=1), ("budget", 1, 1, 1))

    def test_an_ask_that_fails_isnt_come_to(self):
        self.assertEqual(gone_by(program(("if", [], [])), []), ("lack", 0, 0, 0))
        self.assertEqual(gone_by(program(UP, ("if", [], [])), [], budget=1), ("budget", 1, 1, 1))
        self.assertEqual(gone_by(program(UP, ("when", 1, 2, [])), [], budget=1), ("budget", 1, 1, 1))

    def test_names_of_arguments(self):
        told = gone_by(stack=3, truths=[True], budget=9, size=None, definitions={},
                       program=program(("when", 1, 1, [UP])))
        self.assertEqual(told, ("end", 1, 2, 1))
        self.assertIs(type(told), tuple)


class Refused(unittest.TestCase, Looks):
    def looks(self):
        """Both acts that look, without and with truths."""
        return [(Look, ()), (gone_by, ([],))]

    def test_programs(self):
        for thing in no_things() + [[UP], (UP,), "height", 1]:
            if not isinstance(thing, Program):
                self.refused(NoProgram, thing, Look, thing, definitions=1, size=0, stack=0, budget=0)
                self.refused(NoProgram, thing, gone_by, thing, None, definitions=1, size=0, stack=0, budget=0)

    def test_truths(self):
        for thing in [None, True, False, 0, "", "TF", {}, {True: 1}, [True] * 401, (False,) * 401, [1], [0], (None,),
                      ["True"], [True, 1], [[True]], [(1, 2)]] + objects():
            self.refused(NoChoices, thing, gone_by, program(), thing, definitions=1, size=0)
            self.refused(NoChoices, thing, gone_by, truths=thing, program=program(), stack=0, budget=0)

    def test_as_many_truths_as_asks(self):
        words = program(("when", 1, 1, []), UP, ("if", [("when", 1, 1, [])], []))
        for truths in ([], [True], [False], [True, True], [True, False, True], [True, True, True, True], (False, True),
                       [True] * 400):
            self.refused(NoChoices, truths, gone_by, words, truths)
        failing = program(("when", 1, 1, []), ("drop",), ("when", 1, 1, []))
        for truths in ([], [True, True], (False, True)):
            self.refused(NoChoices, truths, gone_by, failing, truths)
        self.assertEqual(gone_by(failing, (False,)), ("lack", 0, 1, 0))
        many = program(*[("when", 1, 1, [])] * 400)
        self.assertEqual(gone_by(many, [False] * 400), ("end", 0, 400, 0))
        long = [False] * 399
        self.refused(NoChoices, long, gone_by, many, long)
        self.refused(NoChoices, long, gone_by, program(), long)

    def test_a_told_size_leaves_no_ask(self):
        truths = [True]
        self.refused(NoChoices, truths, gone_by, program(("when", 1, 1, [])), truths, size=1)

    def test_definitions(self):
        nine = {name: program() for name in "abcdefghi"}
        for thing in [True, False, 0, 1, "", "a", [], (), [("a", program())], nine, {"A": program()}, {1: program()},
                      {"a": None}, {"a": [UP]}, {True: program()}, {("a",): program()}] + objects():
            for act, more in self.looks():
                self.refused(NoProgram, thing, act, program(("call", "a")), *more, definitions=thing, size=0)
        calls_b = {"a": program(("call", "b")), "b": program()}
        for act, more in self.looks():
            self.refused_at(NoDefinition, {"found": "b"}, act, program(), *more, definitions=calls_b, size=0)
            self.refused_at(NoDefinition, {"found": "a"}, act, program(), *more,
                            definitions={"a": program(("call", "a"))})
            self.refused_at(NoDefinition, {"found": "c"}, act, program(UP, ("call", "c"), ("call", "d")), *more,
                            definitions={"a": program()}, size=0, stack=0)
            self.refused_at(NoDefinition, {"found": "c"}, act, program(("call", "c")), *more, size=0)
            act(program(), *more, definitions=None)

    def test_sizes_and_limits(self):
        for act, more in self.looks():
            for thing in no_sizes():
                if thing is not None:
                    self.refused(NoSize, thing, act, program(), *more, size=thing, stack=0, budget=0)
            for thing in no_numbers() + [0, -1, 101, (1, 2), MOST]:
                self.refused(NoLimit, thing, act, program(), *more, stack=thing, budget=0)
            for thing in no_numbers() + [0, -1, 401, (1, 2), MOST]:
                self.refused(NoLimit, thing, act, program(), *more, budget=thing, stack=100)

    def test_a_size_ahead_of_too_few_truths(self):
        self.refused(NoSize, 0, gone_by, program(("when", 1, 1, [])), [], size=0)
        self.refused(NoLimit, 0, gone_by, program(("when", 1, 1, [])), [], budget=0)


class Looked(unittest.TestCase, Looks):
    def test_ends(self):
        words = program(UP, ("if", [UP, UP], [("when", 3, 5, [STAY, STAY, STAY])]), ("when", 3, 5, [UP]))
        self.assertEqual(Look(words).ends(), [
            (0, 4, [False, False, False], 7, [False, True, False]),
            (1, 5, [False, False, True], 8, [False, True, True]),
            (2, 5, [True, False], 5, [True, False]),
            (3, 6, [True, True], 6, [True, True])])
        self.assertEqual(Look(words, size=1).ends(), [(0, 4, [False], 4, [False]), (2, 5, [True], 5, [True])])
        self.assertEqual(Look(words, size=3).ends(), [(1, 8, [False], 8, [False]), (3, 6, [True], 6, [True])])
        self.assertEqual(Look(program()).ends(), [(0, 0, [], 0, [])])
        self.assertEqual(Look(program(DOWN)).ends(), [])

    def test_faults(self):
        self.assertEqual(Look(program(UP)).faults(), [])
        words = program(UP, ("if", [DOWN], [UP, UP, UP]), ("when", 1, 1, [DOWN, DOWN]), STAY, STAY)
        self.assertEqual(Look(words).faults(), [("lack", 2, [True])])
        self.assertEqual(Look(words, stack=2).faults(), [("lack", 2, [True]), ("full", 4, [False])])
        self.assertEqual(Look(words, stack=2, budget=4).faults(), [("budget", 4, [False]), ("lack", 2, [True])])
        self.assertEqual(Look(words, budget=5).faults()[0][:2], ("budget", 5))

    def test_a_stack_and_a_budget_just_met(self):
        words = program(("repeat", 5, [UP]))
        self.assertEqual(Look(words, stack=5, budget=11).faults(), [])
        self.assertEqual(Look(words, stack=5, budget=11).ends(), [(5, 11, [], 11, [])])
        self.assertEqual(Look(words, stack=4, budget=11).faults(), [("full", 10, [])])
        self.assertEqual(Look(words, stack=5, budget=10).faults(), [("budget", 10, [])])
        self.assertEqual(Look(words, stack=4, budget=10).faults(), [("budget", 10, [])])
        self.assertEqual(Look(words, stack=4, budget=10).ends(), [])

    def test_empty_blocks_at_the_end_of_the_budget(self):
        told = {"a": program()}
        self.assertEqual(Look(program(("repeat", 1, [])), budget=2).faults(), [])
        self.assertEqual(Look(program(("repeat", 2, [])), budget=2).faults(), [("budget", 2, [])])
        self.assertEqual(Look(program(("repeat", 0, [])), budget=1).faults(), [])
        self.assertEqual(Look(program(("call", "a")), definitions=told, budget=1).faults(), [])
        self.assertEqual(Look(program(("call", "a"), ("call", "a")), definitions=told, budget=1).faults(),
                         [("budget", 1, [])])

    def test_a_way_doesnt_go_by_a_word_that_fails(self):
        words = program(UP, UP, ("if", [("swap",)], [STAY]))
        self.assertEqual(Look(words).ends(), [(1, 4, [False], 4, [False])])
        self.assertEqual(Look(words).faults(), [("lack", 3, [True])])

    def test_top_where_the_budget_ends(self):
        self.assertEqual(Look(program(("when", 1, 1, [UP]), STAY), budget=2).top(), (1, [True]))
        self.assertEqual(Look(program(("when", 1, 1, [("repeat", 1, [UP])]), STAY), budget=4).top(), (1, [True]))
        told = {"a": program(UP)}
        self.assertEqual(Look(program(("when", 1, 1, [("call", "a")]), STAY), definitions=told, budget=3).top(),
                         (1, [True]))

    def test_top(self):
        self.assertEqual(Look(program()).top(), (0, []))
        self.assertEqual(Look(program(UP, DOWN)).top(), (1, []))
        words = program(("when", 1, 1, [UP, UP, DOWN, DOWN, DOWN]), ("when", 1, 1, [UP]))
        self.assertEqual(Look(words).top(), (2, [True]))
        height, way = Look(program(("when", 1, 1, [UP]), ("when", 1, 1, []), DOWN)).top()
        self.assertEqual((height, way[0], len(way)), (1, True, 2))
        self.assertEqual(Look(program(*[UP] * 30)).top(), (24, []))

    def test_idle(self):
        self.assertEqual(Look(program(UP, DOWN)).idle(), [])
        self.assertEqual(Look(program(UP, DOWN, DOWN, UP)).idle(), [2, 3])
        self.assertEqual(Look(program(("repeat", 0, [UP, ("if", [UP], [UP])]), UP)).idle(), [1, 2, 3, 4])
        words = program(("when", 3, 5, [UP, ("when", 1, 2, [UP])]), ("when", 5, 3, [UP]), UP)
        self.assertEqual(Look(words).idle(), [])
        self.assertEqual(Look(words, size=3).idle(), [3, 5])
        self.assertEqual(Look(words, size=2).idle(), [1, 2, 3, 5])
        self.assertEqual(Look(program(*[STAY] * 9), budget=7).idle(), [7, 8])
        self.assertEqual(Look(program(UP, ("if", [UP, UP], [UP])), stack=1).idle(), [3])

    def test_a_word_with_blocks_is_done_where_it_was_counted(self):
        failing = {"a": program(DOWN)}
        self.assertEqual(Look(program(("call", "a"), UP), definitions=failing).idle(), [1])
        self.assertEqual(Look(program(("repeat", 2, [DOWN]), UP)).idle(), [1, 2])
        self.assertEqual(Look(program(("repeat", 2, [DOWN])), budget=1).idle(), [1])
        self.assertEqual(Look(program(UP, ("if", [DOWN], [DOWN]))).idle(), [2, 3])

    def test_words_of_definitions_are_none_of_the_programs(self):
        told = {"a": program(UP, UP, DOWN, DOWN, DOWN), "b": program(("call", "a"), UP)}
        self.assertEqual(Look(program(UP, ("call", "b"), DOWN, DOWN), definitions=told).idle(), [3])

    def test_lists_are_new_ones(self):
        told = Look(program(("when", 1, 1, [UP, DOWN, DOWN])))
        for ask in (told.ends, told.faults, told.idle):
            self.assertIs(type(ask()), list)
            ask().append(1)
        told.ends()[0][2].append(1)
        told.ends()[0][4].append(1)
        told.faults()[0][2].append(1)
        told.top()[1].append(1)
        self.assertEqual(told.ends(), [(0, 1, [False], 1, [False])])
        self.assertEqual((told.faults(), told.top(), told.idle()), ([("lack", 3, [True])], (1, [True]), [3]))
        self.assertEqual([type(row) for row in told.ends() + told.faults()], [tuple] * 2)
        one = Look(program(("when", 1, 1, [UP, DOWN])))
        row = one.ends()[0]
        self.assertIsNot(row[2], row[4])

    def test_names_of_arguments(self):
        told = Look(budget=3, stack=2, size=1, definitions={"a": program(UP)}, program=program(("call", "a")))
        self.assertEqual(told.ends(), [(1, 2, [], 2, [])])

    def test_a_way_of_all_counts(self):
        # Steps of 2 and 3 words, of which 400 are let by: the most isn't what the longest ways come to.
        words = [("when", 1, 1, [STAY]), ("when", 1, 1, [STAY, STAY, STAY])] * 3
        self.assertEqual([row[:2] + row[3:4] for row in Look(program(*words)).ends()], [(0, 6, 18)])
        for budget in range(1, 19):
            told = Look(program(*words), budget=budget)
            self.assertEqual([row[:2] + row[3:4] for row in told.ends()],
                             [(0, 6, self.most(budget))] if budget > 5 else [])

    def most(self, budget):
        """The most of at most three 1s and three 3s above 6."""
        return max(6 + one + 3 * three for one in range(4) for three in range(4) if 6 + one + 3 * three <= budget)


class Unrolled:
    """All ways at once, word by word, round by round: the heights and counts that they can have."""

    def __init__(self, definitions, most, budget):
        self.definitions, self.most, self.budget = definitions, most, budget
        self.faults, self.top = {}, 0

    def counted(self, states, takes=0, puts=0):
        found = set()
        for height, counted in states:
            why = None
            if counted == self.budget:
                why = "budget"
            elif height < takes:
                why = "lack"
            elif height - takes + puts > self.most:
                why = "full"
            if why:
                self.faults[why] = min(counted, self.faults.get(why, 999))
            else:
                found.add((height - takes + puts, counted + 1))
        self.top = max([self.top] + [height for height, _ in found])
        return found

    def words(self, states, words):
        for word in words:
            states = self.word(states, word)
        return states

    def word(self, states, word):
        name = word[0]
        if name == "if":
            inside = self.counted(states, 1)
            return self.words(inside, word[1]) | self.words(inside, word[2])
        if name == "when":
            inside = self.counted(states)
            return self.words(inside, word[3]) | inside
        if name in ("repeat", "call"):
            states = self.counted(states)
            if name == "call":
                return self.words(states, self.definitions[word[1]])
            for _ in range(word[1]):
                states = self.words(self.counted(states), word[2])
            return states
        return self.counted(states, *((word[1], word[1] + 1) if name == "pick" else TAKES[name]))


class Soon(unittest.TestCase, Looks):
    """Rounds within rounds through all definitions."""

    def told(self, inner, around, **limits):
        definitions, words = {}, inner
        for name in CALLED:
            definitions[name] = Program(words, names=CALLED)
            words = around(("call", name))
        return Look(Program(words, names=CALLED), definitions=definitions, **limits), words, definitions

    def look_at(self, told, words, definitions, **limits):
        """Does each way that is told tell just that?"""
        def gone(way):
            return gone_by(Program(words, names=CALLED), way, definitions=definitions, **limits)
        for height, least, way, most, other in told.ends():
            self.assertEqual(gone(way)[:3], ("end", height, least))
            self.assertEqual(gone(other)[:3], ("end", height, most))
        for why, least, way in told.faults():
            self.assertEqual((gone(way)[0], gone(way)[2]), (why, least))
        self.assertEqual(gone(told.top()[1])[3], told.top()[0])

    def test_rounds_that_may_be_gone_by(self):
        def around(word):
            inner = ("repeat", 20, [("when", 1, 9, [("repeat", 20, [word])])])
            return [("repeat", 20, [("when", 1, 9, [inner])])]
        for limits in ({}, {"stack": 100}, {"stack": 1}, {"size": 1}):
            told, words, definitions = self.told([UP], around, **limits)
            self.look_at(told, words, definitions, **limits)
            self.assertEqual([fault[0] for fault in told.faults()][:1], ["full" if "size" in limits else "budget"])

    def test_rounds_of_many_heights(self):
        def around(word):
            return [UP, ("if", [("repeat", 20, [UP, ("if", [("repeat", 20, [word])], [("when", 1, 3, [DOWN])])])], [])]
        inner = [UP, ("if", [UP, UP], [UP, ("copy",), DOWN])]
        told, words, definitions = self.told(inner, around)
        self.look_at(told, words, definitions)
        self.assertEqual([fault[0] for fault in told.faults()], ["budget", "lack", "full"])
        self.assertEqual(told.top()[0], 24)

    def test_all_heights(self):
        words = [UP] * 12 + [("repeat", 20, [("when", 1, 1, [UP]), ("when", 1, 1, [DOWN]), ("when", 1, 1, [STAY])])]
        told = Look(program(*words))
        self.look_at(told, words, {})
        self.assertEqual([row[0] for row in told.ends()], list(range(25)))
        self.assertEqual(told.ends()[12][1::2], (12 + 1 + 20 * 4, 12 + 1 + 20 * 7))
        self.assertEqual([fault[0] for fault in told.faults()], ["lack", "full"])


class Random(unittest.TestCase, Looks):
    def once(self, seed):
        maker = Maker(seed)
        chance, definitions = maker.chance, {}
        for name in "ab":
            definitions[name] = maker.words(2, list(definitions), chance.randint(0, 4))
        words = maker.words(3, ["a", "b"], chance.randint(0, 7))
        size, most = chance.choice([None, None, None, 1, 2, 3]), chance.choice([1, 2, 3, 5, 24])
        budget = chance.choice([1, 3, 8, 15, 40, 400])
        ways = all_ways(words, definitions, size, most, budget)
        if ways is None:
            return []
        programs = {name: program(*block) for name, block in definitions.items()}
        limits = {"definitions": programs, "size": size, "stack": most, "budget": budget}
        for truths, wanted, _ in ways[:60]:
            self.assertEqual(gone_by(program(*words), truths, **limits), wanted)
        self.same(Look(program(*words), **limits), words, ways, limits)
        return [wanted[0] for _, wanted, _ in ways]

    def same(self, told, words, ways, limits):
        """Is told what all ways tell, no less and no more?"""
        def gone(way):
            return gone_by(program(*words), way, **limits)
        ends, faults = {}, {}
        for _, (end, height, counted, _), _ in ways:
            if end == "end":
                ends.setdefault(height, []).append(counted)
            else:
                faults[end] = min(counted, faults.get(end, 999))
        self.assertEqual([(row[0], row[1], row[3]) for row in told.ends()],
                         [(height, min(ends[height]), max(ends[height])) for height in sorted(ends)])
        for height, least, way, most, other in told.ends():
            self.assertEqual((gone(way)[:3], gone(other)[:3]), (("end", height, least), ("end", height, most)))
        self.assertEqual([row[:2] for row in told.faults()],
                         [(why, faults[why]) for why in ("budget", "lack", "full") if why in faults])
        for why, least, way in told.faults():
            self.assertEqual((gone(way)[0], gone(way)[2]), (why, least))
        top, way = told.top()
        self.assertEqual((top, gone(way)[3]), (max(wanted[3] for _, wanted, _ in ways), top))
        done = set().union(*[each for _, _, each in ways])
        self.assertEqual(told.idle(), [at for at in range(how_many(words)) if at not in done])

    def test_all_ways(self):
        seen = []
        for seed in range(700):
            with self.subTest(seed=seed):
                seen += set(self.once(seed))
        for end in ("end", "budget", "lack", "full"):
            self.assertGreater(seen.count(end), 20)

    def test_as_all_ways_at_once_tell(self):
        """Longer programs, whose ways are too many to go through."""
        seen = {}
        for seed in range(25):
            maker = Maker(seed)
            definitions = {"a": maker.level(1, [], 3)}
            words = [UP] * maker.chance.choice([0, 9, 20])
            for _ in range(3):
                words += [("repeat", maker.chance.choice([5, 20]), maker.level(2, ["a"], 3)), *maker.level(2, ["a"], 2)]
            limits = {"stack": maker.chance.choice([9, 24, 40]), "budget": maker.chance.choice([150, 400])}
            wanted = Unrolled(definitions, limits["stack"], limits["budget"])
            ends = {}
            for height, counted in wanted.words({(0, 0)}, words):
                ends.setdefault(height, []).append(counted)
            programs = {"a": program(*definitions["a"])}
            told = Look(program(*words), definitions=programs, **limits)
            self.assertEqual([(row[0], row[1], row[3]) for row in told.ends()],
                             [(height, min(ends[height]), max(ends[height])) for height in sorted(ends)])
            self.assertEqual({why: least for why, least, _ in told.faults()}, wanted.faults)
            self.assertEqual(told.top()[0], wanted.top)
            for height, least, way, most, other in told.ends():
                for truths, counted in ((way, least), (other, most)):
                    found = gone_by(program(*words), truths, definitions=programs, **limits)
                    self.assertEqual(found[:3], ("end", height, counted))
            seen[len(ends) > 3] = seen.get(len(ends) > 3, 0) + 1
        self.assertGreater(seen[True], 3, seen)

    def test_runs_go_by_ways(self):
        """Each run that doesn't fail otherwise goes by a way; none of the three is met where there are no faults."""
        seen = {}
        for seed in range(300):
            maker = Maker(seed)
            words = [("push", 1), ("push", 0)] + maker.words(3, [], 6)
            limits = {"stack": maker.chance.choice([3, 24]), "budget": maker.chance.choice([20, 400])}
            machine = Machine({}, size=2, worths=(), zone=Zone((), ()), **limits)
            told = Look(program(*words), size=2, **limits)
            try:
                counted = machine.run(program(*words))
                rows = [row for row in told.ends() if row[0] == len(machine.stack())]
                self.assertTrue(rows and rows[0][1] <= counted <= rows[0][3])
                seen["end"] = seen.get("end", 0) + 1
            except Fault as fault:
                if fault.why in ("budget", "lack", "full"):
                    least = {row[0]: row[1] for row in told.faults()}
                    self.assertLessEqual(least[fault.why], fault.done)
                    seen[fault.why] = seen.get(fault.why, 0) + 1
        self.assertEqual(len(seen), 4, seen)


if __name__ == "__main__":
    unittest.main()
