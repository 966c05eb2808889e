"""Programs made shorter: points 86 to 88."""

import random
import unittest
from fractions import Fraction

from hintedpoints.errors import Fault, NoProgram, NoWord
from hintedpoints.machine import Machine
from hintedpoints.programs import Program
from hintedpoints.shorten import shortened, shortened_by, shortenings
from hintedpoints.zones import Zone
from tests.helpers import LONG_PART, MOST, Looks, exact, no_things, number, objects

RULES = ["waste", "twice", "folded", "nothing", "again", "empty", "once", "known"]
STAY = ("rest", "east")
NAMES = ["a", "b"]


def program(*words):
    """A program of these words."""
    return Program(words, names=NAMES)


def short(number_told):
    """Has a Fraction at most sixty figures above and below?"""
    return abs(number_told.numerator) <= MOST and number_told.denominator <= MOST


def folded(words):
    """What the words that reckon tell, by fractions: a number and how many words, or None."""
    one = {"negate": lambda a: -a, "bare": abs, "floor": lambda a: a // 64 * 64, "ceil": lambda a: -(-a // 64) * 64,
           "not": lambda a: int(a == 0)}
    two = {"plus": lambda a, b: a + b, "minus": lambda a, b: a - b, "times": lambda a, b: a * b,
           "lesser": lambda a, b: int(a < b), "greater": lambda a, b: int(a > b), "same": lambda a, b: int(a == b),
           "both": lambda a, b: int(a != 0 and b != 0), "either": lambda a, b: int(a != 0 or b != 0)}
    if len(words) > 1 and words[0][0] == "push" and words[1][0] in one:
        told = Fraction(one[words[1][0]](exact(words[0][1])))
        return (told, 2) if short(told) else None
    if len(words) > 2 and words[0][0] == words[1][0] == "push" and words[2][0] in two:
        told = Fraction(two[words[2][0]](exact(words[0][1]), exact(words[1][1])))
        return (told, 3) if short(told) else None
    return None


def what(rule, words):
    """What a rule makes of words, from the first one on: how many go, and what comes; or None."""
    word, name = words[0], words[0][0]
    behind = words[1] if len(words) > 1 else (None,)
    pair = (name, behind[0])
    if rule == "waste" and name in ("push", "size", "height", "copy") and behind[0] == "drop":
        return 2, []
    if rule == "twice" and pair in (("swap", "swap"), ("negate", "negate")):
        return 2, []
    if rule == "twice" and pair in (("bare", "bare"), ("floor", "floor"), ("ceil", "ceil")):
        return 2, [word]
    if rule == "folded" and folded(words):
        told, many = folded(words)
        return many, [("push", number(told))]
    if rule == "nothing" and pair in (("push", "plus"), ("push", "minus")) and word[1] == 0:
        return 2, []
    if rule == "nothing" and pair in (("push", "times"), ("push", "over")) and word[1] == 1:
        return 2, []
    if rule == "again" and (pair in (("measure", "way"), ("move", "way")) or (
            name == behind[0] and name in ("round", "way", "measure", "move"))):
        return 2, [behind]
    if rule == "empty" and name == "repeat" and (word[1] == 0 or not word[2]):
        return 1, []
    if rule == "empty" and name == "when" and (word[1] > word[2] or not word[3]):
        return 1, []
    if rule == "empty" and name == "if" and not word[1] and not word[2]:
        return 1, [("drop",)]
    if rule == "once" and name == "repeat" and word[1] == 1:
        return 1, word[2]
    if rule == "known" and pair == ("push", "if"):
        return 2, behind[2] if word[1] == 0 else behind[1]
    return None


def doable(words, path=()):
    """All (rule, path) with what comes of each, in order."""
    found = []
    for at, word in enumerate(words):
        for rule in RULES:
            told = what(rule, words[at:])
            if told is not None:
                found.append((rule, path + (at,), words[:at] + told[1] + words[at + told[0]:]))
        blocks = [place for place, thing in enumerate(word) if isinstance(thing, list)]
        for turn, place in enumerate(blocks):
            for rule, inner, news in doable(word[place], path + (at, turn)):
                other = word[:place] + (news,) + word[place + 1:]
                found.append((rule, inner, words[:at] + [other] + words[at + 1:]))
    return found


def how_many(words):
    """How many words there are, those of blocks with them."""
    return len(Program(words, names=NAMES))


class Maker:
    """Makes random programs in which something can be done."""

    def __init__(self, seed):
        self.chance = random.Random(seed)

    def plain(self):
        name = self.chance.choice(["push"] * 8 + [
            "drop", "drop", "swap", "negate", "bare", "floor", "ceil", "not", "plus", "minus", "times", "over",
            "lesser",
            "greater", "same", "both", "either", "size", "height", "copy", "round", "way", "measure", "move", "keep",
            "settle", "rest"])
        if name == "push":
            return (name, self.chance.choice([0, 0, 1, 1, 2, -3, 64, 100, (1, 2), (-7, 3), MOST]))
        if name == "round":
            return (name, self.chance.choice(["grid", "off", "half"]))
        if name in ("way", "measure", "move"):
            return (name, *self.chance.choice([(1, 0), (0, 1), (3, 4)]))
        return (name, "east") if name == "rest" else (name,)

    def words(self, deep, most):
        found = []
        for _ in range(self.chance.randint(0, most)):
            kind = self.chance.random()
            if kind < 0.1:
                name = self.chance.choice(["plus", "minus", "times", "over"])
                found += [("push", self.chance.choice([0, 1, 1])), (name,)]
            elif kind < 0.7 or deep == 0:
                found.append(self.plain())
                if self.chance.random() < 0.3:
                    found.append(found[-1])
            elif kind < 0.8:
                found.append(("if", self.words(deep - 1, 3), self.words(deep - 1, 3)))
            elif kind < 0.9:
                found.append(("repeat", self.chance.choice([0, 1, 1, 2, 3]), self.words(deep - 1, 3)))
            else:
                low, high = self.chance.choice([(1, 5), (5, 1), (3, 3), (4, 200)])
                found.append(("when", low, high, self.words(deep - 1, 3)))
        return found


class Rules(unittest.TestCase, Looks):
    def only(self, rule, words, news, path=(0,)):
        """Is this rule alone to be done, and does it make this?"""
        self.assertEqual(shortenings(program(*words)), [(rule, path)], words)
        self.assertEqual(shortened_by(program(*words), rule=rule, path=path).words(), list(news), words)

    def none(self, *words):
        """Is nothing to be done?"""
        self.assertEqual(shortenings(program(*words)), [], words)
        self.assertEqual(shortened(program(*words)), (program(*words), []))

    def test_waste(self):
        for word in (("push", 5), ("size",), ("height",), ("copy",)):
            self.only("waste", [word, ("drop",)], [])
            self.only("waste", [STAY, word, ("drop",), ("drop",)], [STAY, ("drop",)], (1,))
            self.none(word)
            self.none(("drop",), word)
        for word in (("swap",), ("load",), ("drop",), ("pick", 1), ("plus",), STAY):
            self.none(word, ("drop",))

    def test_twice(self):
        for name in ("swap", "negate"):
            self.only("twice", [(name,), (name,)], [])
        for name in ("bare", "floor", "ceil"):
            self.only("twice", [(name,), (name,)], [(name,)])
        for name in ("not", "copy", "drop", "height", "plus"):
            self.none((name,), (name,))
        self.none(("swap",), ("negate",), ("swap",), ("bare",), ("floor",), ("ceil",), ("bare",))

    def test_folded_of_two(self):
        for one, other in ((3, 5), (5, 3), (3, 3), (0, 7), (7, 0), (0, 0), ((1, 2), (-1, 2)), ((2, 3), (3, 4)),
                           (-64, 1)):
            for name in ("plus", "minus", "times", "lesser", "greater", "same", "both", "either"):
                words = [("push", one), ("push", other), (name,)]
                told, _ = folded(words)
                self.assertIn(("folded", (0,)), shortenings(program(*words)))
                found = shortened_by(program(*words), rule="folded", path=(0,)).words()
                self.assertEqual(found, [("push", number(told))])
        self.only("folded", [("push", 3), ("push", 5), ("minus",)], [("push", -2)])
        self.none(("push", 6), ("push", 3), ("over",))
        self.none(("push", 6), ("push", 3), ("swap",))
        self.none(("size",), ("push", 3), ("plus",))
        self.none(("push", 3), ("size",), ("plus",))

    def test_folded_of_one(self):
        for one in (0, 1, -1, 64, 65, -65, (1, 2), (-129, 2)):
            for name in ("negate", "bare", "floor", "ceil", "not"):
                words = [("push", one), (name,)]
                self.only("folded", words, [("push", number(folded(words)[0]))])
        self.only("folded", [("push", (-129, 2)), ("ceil",)], [("push", -64)])
        for name in ("load", "worth", "copy", "place"):
            self.none(("push", 1), (name,))

    def test_folded_to_just_sixty_figures_and_to_more(self):
        self.only("folded", [("push", MOST - 2), ("push", 2), ("plus",)], [("push", MOST)])
        self.none(("push", MOST - 2), ("push", 3), ("plus",))
        self.only("folded", [("push", -MOST + 2), ("push", 2), ("minus",)], [("push", -MOST)])
        self.none(("push", -MOST), ("push", 2), ("minus",))
        self.only("folded", [("push", 10 ** 30 - 1), ("push", 10 ** 30 + 1), ("times",)], [("push", MOST)])
        self.none(("push", 10 ** 30), ("push", 10 ** 30), ("times",))
        words = [("push", (1, 10 ** 30 - 1)), ("push", (1, 10 ** 30 + 1)), ("times",)]
        self.only("folded", words, [("push", (1, MOST))])
        self.none(("push", (1, 10 ** 30)), ("push", (1, 10 ** 30)), ("times",))
        self.none(("push", LONG_PART), ("push", LONG_PART), ("times",))
        self.only("folded", [("push", LONG_PART), ("push", LONG_PART), ("same",)], [("push", 1)])
        self.none(("push", MOST), ("ceil",))
        self.none(("push", -MOST), ("floor",))
        self.only("folded", [("push", -MOST), ("ceil",)], [("push", -(MOST // 64) * 64)])
        self.only("folded", [("push", -MOST), ("bare",)], [("push", MOST)])

    def test_nothing(self):
        for number_told, names in ((0, ("plus", "minus")), (1, ("times", "over"))):
            for name in names:
                self.only("nothing", [("size",), ("push", number_told), (name,)], [("size",)], (1,))
                self.none(("size",), ("push", 2), (name,))
                self.none(("size",), ("push", 1 - number_told), (name,))

    def test_again(self):
        for one, other in ((("round", "grid"), ("round", "off")), (("way", 1, 0), ("way", 3, 4)),
                           (("measure", 1, 0), ("measure", 0, 1)), (("move", 1, 0), ("move", 3, 4)),
                           (("measure", 1, 0), ("way", 0, 1)), (("move", 1, 0), ("way", 0, 1))):
            self.only("again", [one, other], [other])
            self.only("again", [STAY, one, other, STAY], [STAY, other, STAY], (1,))
        self.none(("way", 1, 0), ("measure", 0, 1), ("move", 1, 0), ("measure", 1, 0), ("round", "grid"), ("way", 1, 0))
        self.none(STAY, STAY, ("least",), ("least",))

    def test_empty(self):
        self.only("empty", [("repeat", 0, [STAY])], [])
        self.only("empty", [("repeat", 2, [])], [])
        self.only("empty", [("repeat", 0, [])], [])
        self.only("empty", [("when", 5, 4, [STAY])], [])
        self.only("empty", [("when", 4, 5, [])], [])
        self.only("empty", [("if", [], [])], [("drop",)])
        self.none(("repeat", 2, [STAY]), ("when", 4, 4, [STAY]), ("if", [STAY], []), ("if", [], [STAY]))

    def test_once(self):
        self.only("once", [("repeat", 1, [STAY, ("size",), STAY])], [STAY, ("size",), STAY])
        self.none(("repeat", 2, [STAY]))
        both = program(("repeat", 1, []))
        self.assertEqual(shortenings(both), [("empty", (0,)), ("once", (0,))])
        for rule in ("empty", "once"):
            self.assertEqual(shortened_by(both, rule=rule, path=(0,)).words(), [])

    def test_known(self):
        for told, wanted in ((0, [("size",)]), (1, [STAY, STAY]), (-1, [STAY, STAY]), ((1, 2), [STAY, STAY])):
            self.only("known", [("push", told), ("if", [STAY, STAY], [("size",)]), STAY], wanted + [STAY])
        self.none(("size",), ("if", [STAY], []))
        both = program(("push", 1), ("if", [], []))
        self.assertEqual(shortenings(both), [("known", (0,)), ("empty", (1,))])
        self.assertEqual(shortened_by(both, rule="known", path=(0,)).words(), [])
        self.assertEqual(shortened_by(both, rule="empty", path=(1,)).words(), [("push", 1), ("drop",)])

    def test_two_that_could_be_done_at_one_word(self):
        both = program(("push", 2), ("push", 0), ("plus",))
        self.assertEqual(shortenings(both), [("folded", (0,)), ("nothing", (1,))])
        both = program(("push", 0), ("repeat", 1, []), ("push", 1), ("push", 1), ("times",))
        self.assertEqual(shortenings(both), [("empty", (1,)), ("once", (1,)), ("folded", (2,)), ("nothing", (3,))])
        both = program(("negate",), ("negate",), ("negate",))
        self.assertEqual(shortenings(both), [("twice", (0,)), ("twice", (1,))])
        three = program(("repeat", 0, [("repeat", 1, []), ("size",), ("drop",)]))
        self.assertEqual(shortenings(three), [("empty", (0,)), ("empty", (0, 0, 0)), ("once", (0, 0, 0)),
                                              ("waste", (0, 0, 1))])

    def test_paths_within_blocks(self):
        inner = [STAY, ("size",), ("drop",)]
        words = [STAY, ("if", [STAY], inner), ("when", 1, 9, inner), ("repeat", 3, [STAY, ("if", inner, inner)])]
        self.assertEqual(shortenings(program(*words)), [
            ("waste", (1, 1, 1)), ("waste", (2, 0, 1)), ("waste", (3, 0, 1, 0, 1)), ("waste", (3, 0, 1, 1, 1))])
        told = shortened_by(program(*words), path=(3, 0, 1, 1, 1), rule="waste").words()
        self.assertEqual(told, words[:3] + [("repeat", 3, [STAY, ("if", inner, [STAY])])])
        told = shortened_by(program(*words), rule="waste", path=(1, 1, 1)).words()
        self.assertEqual(told, [STAY, ("if", [STAY], [STAY])] + words[2:])

    def test_five_blocks_within_one_another(self):
        words = [("copy",), ("drop",)]
        for _ in range(5):
            words = [STAY, ("repeat", 2, words)]
        path = (1, 0) * 5 + (0,)
        self.assertEqual(shortenings(program(*words)), [("waste", path)])
        told, steps = shortened(program(*words))
        self.assertEqual(told.words(), [STAY, ("repeat", 2, [STAY, ("repeat", 2, [STAY, ("repeat", 2, [
            STAY, ("repeat", 2, [STAY])])])])])
        self.assertEqual(steps, [("waste", path), ("empty", path[:-2])])

    def test_neighbours_stand_in_one_block(self):
        self.none(("push", 1), ("repeat", 2, [("drop",)]))
        self.none(("size",), ("if", [("drop",), ("push", 2)], [("bare",)]), ("drop",))


class Shortened(unittest.TestCase, Looks):
    def test_step_by_step(self):
        told, steps = shortened(program(("push", 2), ("push", 3), ("plus",), ("push", 5), ("same",),
                                        ("if", [STAY], [("size",)])))
        self.assertEqual(told.words(), [STAY])
        self.assertEqual(steps, [("folded", (0,)), ("folded", (0,)), ("known", (0,))])
        self.assertIs(type(steps), list)
        self.assertEqual([type(step) for step in steps], [tuple] * 3)

    def test_where_nothing_can_be_done(self):
        for words in ([], [STAY], [("repeat", 2, [STAY])]):
            told = shortened(program(*words))
            self.assertIs(type(told), tuple)
            self.assertEqual(told, (program(*words), []))
            self.assertEqual(shortenings(program(*words)), [])

    def test_calls(self):
        told, steps = shortened(program(("call", "b"), ("size",), ("drop",), ("repeat", 0, [("call", "a")])))
        self.assertEqual((told.words(), told.calls()), ([("call", "b")], ["b"]))
        self.assertEqual(steps, [("waste", (1,)), ("empty", (1,))])
        one = shortened_by(program(("call", "b"), ("size",), ("drop",)), rule="waste", path=(1,))
        self.assertEqual(one.calls(), ["b"])

    def test_what_is_handed_in_is_not_changed(self):
        words = [("repeat", 1, [("size",), ("drop",)]), ("size",), ("drop",)]
        told = program(*words)
        shortened(told)
        shortened_by(told, rule="waste", path=(1,))
        shortenings(told).clear()
        self.assertEqual(told.words(), words)
        self.assertEqual(shortenings(told), [("once", (0,)), ("waste", (0, 0, 0)), ("waste", (1,))])

    def test_long_ones(self):
        told, steps = shortened(program(*[("push", 1)] * 200, *[("plus",)] * 199))
        self.assertEqual((told.words(), len(steps)), ([("push", 200)], 199))
        self.assertEqual(steps, [("folded", (at,)) for at in range(198, -1, -1)])
        told, steps = shortened(program(*[("size",)] * 200, *[("drop",)] * 200))
        self.assertEqual((told.words(), len(steps)), ([], 200))

    def test_refused_programs(self):
        for thing in no_things() + [[STAY], "drop", 1]:
            if not isinstance(thing, Program):
                self.refused(NoProgram, thing, shortenings, thing)
                self.refused(NoProgram, thing, shortened, program=thing)
                self.refused(NoProgram, thing, shortened_by, thing, rule=None, path=None)

    def no_pair(self, told, rule, path):
        """Is this refused with NoWord of the tuple of these very things?"""
        with self.assertRaises(NoWord) as caught:
            shortened_by(told, rule=rule, path=path)
        found = caught.exception.found
        self.assertIs(type(found), tuple)
        self.assertEqual(len(found), 2)
        self.assertIs(found[0], rule)
        self.assertIs(found[1], path)

    def test_refused_rules_and_paths(self):
        told = program(("size",), ("drop",), ("repeat", 1, [("size",), ("drop",)]))
        self.assertEqual(shortenings(told), [("waste", (0,)), ("once", (2,)), ("waste", (2, 0, 0))])
        for rule in no_things() + RULES[1:] + ["Waste", 0, ("waste",)]:
            self.no_pair(told, rule, (0,))
        for path in no_things() + [0, [0], [2, 0, 0], (False,), (2, False, 0), (2, 0, False), (2, 0, 0, 0), (1,), (2,),
                                   (-3,), (2, 0), (2, 1, 0), (0, 0, 0), (2, 0, 1), (99,), (MOST,), ((1, 2),), ("0",),
                                   (None,)]:
            self.no_pair(told, "waste", path)
        self.no_pair(program(STAY, ("size",), ("drop",)), "waste", (True,))
        self.no_pair(program(), "waste", (0,))

    def test_random_programs(self):
        seen = {}
        for seed in range(400):
            words = Maker(seed).words(3, 8)
            told = program(*words)
            wanted = doable(words)
            self.assertEqual(shortenings(told), [(rule, path) for rule, path, _ in wanted])
            for rule, path, news in wanted:
                self.assertEqual(shortened_by(told, rule=rule, path=path).words(), news)
                seen[rule] = seen.get(rule, 0) + 1
            steps = []
            while doable(words):
                rule, path, news = doable(words)[0]
                if not (rule == "empty" and how_many(news) == how_many(words)):
                    self.assertLess(how_many(news), how_many(words))
                steps.append((rule, path))
                words = news
            self.assertEqual(shortened(told), (program(*words), steps))
            self.assertEqual(shortenings(shortened(told)[0]), [])
        self.assertEqual(sorted(seen), sorted(RULES))
        self.assertGreater(min(seen.values()), 10, seen)

    def machine(self, size):
        """A machine of a few points."""
        zone = Zone([(3, 5), (80, 7), (90, 95), (0, 64)], [3])
        return Machine({}, size=size, worths=[5, 60], zone=zone, store=[1, 2, 3, 0, 0, 0, 0, 9])

    def test_it_does_the_same(self):
        """Of each one that isn't refused, the shortened one does the same, and counts no more words."""
        done = shorter = 0
        for seed in range(1500):
            words = [("push", 3), ("push", 1), ("push", 2)] + Maker(seed).words(2, 6)
            told, steps = shortened(program(*words))
            for size in (1, 3, 100):
                one, other = self.machine(size), self.machine(size)
                try:
                    counted = one.run(program(*words))
                except Fault:
                    continue
                self.assertLessEqual(other.run(told), counted)
                self.assertEqual((one.store(), one.worths(), one.zone(), one.stack()),
                                 (other.store(), other.worths(), other.zone(), other.stack()))
                done += 1
                shorter += len(steps) > 0
        self.assertGreater(done, 400)
        self.assertGreater(shorter, 300)


class Objects(unittest.TestCase, Looks):
    def test_objects_are_no_rules(self):
        told = program(("size",), ("drop",))
        for thing in objects():
            with self.assertRaises(NoWord) as caught:
                shortened_by(told, rule=thing, path=thing)
            self.assertIs(caught.exception.found[0], thing)


if __name__ == "__main__":
    unittest.main()
