"""Words, and what they take and put: point 31."""

import unittest

from hintedpoints.errors import NoWord
from hintedpoints.words import effect, is_word
from tests.helpers import LONG_PART, MOST, Looks, no_numbers, no_things, objects

# Each plain word, how many things it takes, and how many it puts.
PLAIN = [
    (("push", 0), 0, 1), (("push", -7), 0, 1), (("push", (1, 2)), 0, 1), (("push", (-7, 3)), 0, 1),
    (("push", MOST), 0, 1), (("push", -MOST), 0, 1), (("push", LONG_PART), 0, 1), (("push", (1, MOST)), 0, 1),
    (("push", (-MOST, MOST - 1)), 0, 1), (("height",), 0, 1), (("size",), 0, 1), (("copy",), 1, 2), (("drop",), 1, 0),
    (("swap",), 2, 2), (("pick", 1), 1, 2), (("pick", 2), 2, 3), (("pick", 7), 7, 8), (("pick", 8), 8, 9),
    (("plus",), 2, 1), (("minus",), 2, 1), (("times",), 2, 1), (("over",), 2, 1), (("lesser",), 2, 1),
    (("greater",), 2, 1), (("same",), 2, 1), (("both",), 2, 1), (("either",), 2, 1), (("negate",), 1, 1),
    (("bare",), 1, 1), (("floor",), 1, 1), (("ceil",), 1, 1), (("not",), 1, 1), (("load",), 1, 1), (("worth",), 1, 1),
    (("place",), 1, 1), (("was",), 1, 1), (("keep",), 2, 0), (("setworth",), 2, 0), (("period",), 2, 0),
    (("hold",), 2, 0), (("put",), 2, 0), (("by",), 2, 0), (("shift",), 2, 0), (("least",), 1, 0), (("cutin",), 1, 0),
    (("lean",), 1, 0), (("settle",), 1, 0), (("far",), 1, 0), (("line",), 1, 0), (("amid",), 1, 0),
    (("across",), 5, 0), (("way", 1, 0), 0, 0), (("way", -3, 4), 0, 0), (("measure", 0, -1000), 0, 0),
    (("move", 600, 800), 0, 0), (("round", "grid"), 0, 0), (("round", "half"), 0, 0), (("round", "double"), 0, 0),
    (("round", "down"), 0, 0), (("round", "up"), 0, 0), (("round", "off"), 0, 0), (("rest", "east"), 0, 0),
    (("rest", "north"), 0, 0),
]
BARE = sorted({word[0] for word, _, _ in PLAIN if len(word) == 1})
LED = [("if", [], []), ("if", [("drop",)], ()), ("if", (("copy",), ("drop",)), [("push", 1)]), ("repeat", 0, []),
       ("repeat", 20, [("copy",)]), ("repeat", 1, ()), ("when", 1, 200, []), ("when", 200, 1, [("height",)]),
       ("when", 9, 9, (("drop",),)), ("call", "a"), ("call", "abcdefgh"), ("call", "end"), ("call", "push")]


def within(deep, word=("drop",)):
    """A word with so many blocks within one another."""
    for step in range(deep):
        word = [("repeat", 1, [word]), ("if", [], [word]), ("when", 1, 2, (word,)), ("if", (), (word,))][
            step % 4]
    return word


def no_words():
    """Things that are no words."""
    told = no_things() + objects() + ["drop", "push 1", ["drop"], [("drop",)], (), ("",), (" drop",), ("drop ",),
                                      ("Drop",), ("end",), ("else",), (None,), (1,), (("drop",),), (["drop"],), 3]
    told += [(name, 1) for name in BARE] + [(name, None) for name in BARE] + [(name, []) for name in BARE]
    told += [(name,) for name in ("push", "pick", "way", "measure", "move", "round", "rest", "if", "repeat", "when",
                                  "call")]
    told += [("push", 1, 2), ("push", MOST + 1), ("push", -MOST - 1), ("push", (1, MOST + 1)),
             ("push", (MOST + 2, 2)), ("push", (-MOST - 2, MOST - 1))]
    told += [("push", thing) for thing in no_numbers()]
    told += [("pick", 0), ("pick", 9), ("pick", -1), ("pick", 1, 1), ("pick", (1, 2)), ("pick", (3, 2))]
    for name in ("way", "measure", "move"):
        told += [(name, 1), (name, 1, 0, 1), (name, 1, 1), (name, 0, 0), (name, 1001, 0), (name, True, 0),
                 (name, 0, True), (name, (3, 5), (4, 5)), (name, "1", 0), (name, MOST, 0), (name, (1, 0, 1))]
    told += [("round", "east"), ("round", "Grid"), ("round", ""), ("round", 64), ("round", (64, 0)), ("round", 64, 0),
             ("round", "grid", "grid"), ("round", ["grid"]), ("round", None)]
    told += [("rest", "west"), ("rest", ""), ("rest", "grid"), ("rest", 1), ("rest", ["east"]), ("rest", "east", 1),
             ("rest", (1, 0, 1)), ("rest", None)]
    told += [("call", thing) for thing in ("", "A", "abcdefghi", "a b", "a1", 1, None, ["a"], ("a",), True)]
    told += [("call", "a", []), ("call", "a", "b")]
    return told + no_led()


def no_led():
    """Things that are no words with blocks."""
    long = [("drop",)] * 401
    bad = [("push", True)]
    told = [("if", []), ("if", [], [], []), ("if", 1, [], []), ("repeat", []), ("repeat", 1), ("repeat", 1, [], []),
            ("when", 1, []), ("when", 1, 2), ("when", 1, 2, 3), ("when", 1, 2, 3, []), ("when", 1, 2, [], [])]
    for block in (None, True, 0, "drop", {}, {0: ("drop",)}, long, tuple(long), bad, tuple(bad), [None], ("drop",),
                  [[("drop",)]], [("drop",), ("else",)]):
        told += [("if", block, []), ("if", [], block), ("repeat", 1, block), ("when", 1, 2, block)]
    for thing in (True, False, None, -1, 21, "1", (1, 2), [1]):
        told.append(("repeat", thing, []))
    for thing in (True, None, 0, -1, 201, "1", (1, 2), [1]):
        told += [("when", thing, 200, []), ("when", 1, thing, [])]
    return told


class Words(unittest.TestCase, Looks):
    def test_plain_words(self):
        for word, takes, puts in PLAIN:
            self.assertIs(is_word(word), True, word)
            self.assertEqual(effect(word), (takes, puts), word)
            self.assertEqual(effect(word=word), (takes, puts), word)
            self.assertIs(is_word(thing=word), True, word)
            self.assertIs(type(effect(word)), tuple)

    def test_words_that_are_not_plain(self):
        for word in LED:
            self.assertIs(is_word(word), True, word)
            self.refused(NoWord, word, effect, word)

    def test_what_is_no_word(self):
        for thing in no_words():
            self.assertIs(is_word(thing), False, repr(thing)[:200])
            self.refused(NoWord, thing, effect, thing)

    def test_all_numbers_of_pick_repeat_and_when(self):
        for number in range(-3, 250):
            self.assertIs(is_word(("pick", number)), 1 <= number <= 8)
            self.assertIs(is_word(("repeat", number, [])), 0 <= number <= 20)
            self.assertIs(is_word(("when", number, 5, [])), 1 <= number <= 200)
            self.assertIs(is_word(("when", 5, number, ())), 1 <= number <= 200)

    def test_blocks_of_400_words_and_401(self):
        for kind in (list, tuple):
            self.assertIs(is_word(("repeat", 2, kind([("drop",)] * 400))), True)
            self.assertIs(is_word(("repeat", 2, kind([("drop",)] * 401))), False)
            inner = ("if", [], kind([("drop",)] * 401))
            self.assertIs(is_word(("repeat", 2, [inner])), False)

    def test_blocks_five_within_one_another_and_six(self):
        for deep in range(12):
            self.assertIs(is_word(within(deep)), deep <= 5, deep)
        self.assertIs(is_word(within(30)), False)
        beside = ("if", [within(4), within(4)], [within(1), within(4)])
        self.assertIs(is_word(beside), True)
        self.assertIs(is_word(("if", [within(4), within(4)], [within(1), within(5)])), False)
        # A block without words is a block, too.
        empty = ("repeat", 1, [])
        for deep in range(2, 9):
            empty = ("repeat", 1, [empty])
            self.assertIs(is_word(empty), deep <= 5, deep)

    def test_a_bad_word_within_blocks(self):
        for deep in range(1, 6):
            self.assertIs(is_word(within(deep, ("copy",))), True)
            self.assertIs(is_word(within(deep, ("copy", 1))), False)
            self.assertIs(is_word(within(deep, None)), False)
            self.refused_word(within(deep, ("copy", 1)))

    def refused_word(self, thing):
        self.refused(NoWord, thing, effect, thing)

    def test_what_is_handed_in_is_not_changed(self):
        for thing in LED + no_led():
            before = repr(thing)
            is_word(thing)
            self.assertRaises(NoWord, effect, thing)
            self.assertEqual(repr(thing), before)


if __name__ == "__main__":
    unittest.main()
