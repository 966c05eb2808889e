"""Programs: points 32 and 33."""

import unittest

from hintedpoints.errors import Deep, NoDefinition, NoName, NoProgram, NoWord, TooMany
from hintedpoints.programs import Program
from tests.helpers import Looks, no_things, objects
from tests.test_words import LED, PLAIN, no_words, within

DROP = ("drop",)
NESTED = [("push", 1), ("if", [("copy",), ("repeat", 2, [DROP])], [("call", "b")]), ("call", "a"), ("call", "b")]


def no_lists():
    """Things that are no lists of at most 400 things."""
    return [None, True, False, 0, 1, "", "drop", "ab", {}, {0: DROP}, [DROP] * 401, (DROP,) * 401,
            [None] * 401] + objects()


def no_names():
    """Things that are no names."""
    return no_things() + ["A", "abcdefghi", "a b", "a1", "a\n", 1, (1, 2), ("a",), ["a"]]


class Made(unittest.TestCase, Looks):
    def test_of_all_words(self):
        words = [word for word, _, _ in PLAIN]
        program = Program(words)
        self.assertEqual(program.words(), words)
        self.assertEqual(len(program), len(words))
        self.assertEqual(program.calls(), [])
        self.assertEqual(program.deep(), 0)

    def test_of_words_with_blocks(self):
        program = Program(NESTED, names=["b", "a"])
        self.assertEqual(program.words(), NESTED)
        self.assertEqual(len(program), 8)
        self.assertEqual(program.calls(), ["b", "a"])
        self.assertEqual(program.deep(), 2)
        for word in LED:
            self.assertEqual(len(Program([word], names=(word[1],) if word[0] == "call" else ())),
                             1 + sum(len(block) for block in word if isinstance(block, (list, tuple))))

    def test_of_no_words(self):
        for program in (Program([]), Program(()), Program(words=[], names=[])):
            self.assertEqual(program.words(), [])
            self.assertEqual(len(program), 0)
            self.assertEqual(program.calls(), [])
            self.assertEqual(program.deep(), 0)

    def test_blocks_are_told_as_lists(self):
        program = Program((("if", (DROP,), ()), ("when", 1, 2, (("repeat", 3, (DROP,)),))))
        self.assertEqual(program.words(), [("if", [DROP], []), ("when", 1, 2, [("repeat", 3, [DROP])])])
        self.assertIs(type(program.words()), list)
        self.assertIs(type(program.words()[0]), tuple)
        self.assertIs(type(program.words()[0][1]), list)
        self.assertIs(type(program.words()[1][3][0][2]), list)

    def test_how_deep_it_is(self):
        for deep in range(6):
            self.assertEqual(Program([DROP, within(deep), within(0)]).deep(), deep)
        self.assertEqual(Program([("repeat", 0, [])]).deep(), 1)
        self.assertEqual(Program([("if", [], [("if", [], [])])]).deep(), 2)
        self.assertEqual(Program([within(1), ("if", [], [within(3)]), within(2)]).deep(), 4)

    def test_names_that_it_calls(self):
        words = [("repeat", 1, [("call", "c"), ("if", [("call", "d")], [("call", "a")])]), ("call", "b"),
                 ("call", "c"), ("call", "a")]
        self.assertEqual(Program(words, names=("a", "b", "c", "d", "e")).calls(), ["c", "d", "a", "b"])
        self.assertEqual(Program([("call", "if")], names=["if", "if"]).calls(), ["if"])

    def test_400_words(self):
        self.assertEqual(len(Program([DROP] * 400)), 400)
        self.assertEqual(len(Program([("repeat", 1, [DROP] * 399)])), 400)
        self.assertEqual(len(Program([("repeat", 1, [DROP] * 199)] * 2)), 400)
        self.assertEqual(len(Program([("if", [DROP] * 199, [DROP] * 200)])), 400)

    def test_lists_told_are_new_ones(self):
        inner = [DROP]
        words = [("push", 1), ("repeat", 2, inner), ("call", "a")]
        names = ["a"]
        program = Program(words, names=names)
        inner.append(("copy",))
        words.clear()
        names.clear()
        told = program.words()
        told[1][2].append(("copy",))
        told.pop()
        program.calls().clear()
        self.assertEqual(program.words(), [("push", 1), ("repeat", 2, [DROP]), ("call", "a")])
        self.assertEqual(program.calls(), ["a"])
        self.assertEqual(len(program), 4)
        self.assertEqual(repr(program), "Program([('push', 1), ('repeat', 2, [('drop',)]), ('call', 'a')])")

    def test_what_is_handed_in_is_not_changed(self):
        words = [("repeat", 2, [("if", [DROP], ())]), ("call", "a")]
        names = ["b", "a"]
        Program(words, names=names)
        self.assertEqual(words, [("repeat", 2, [("if", [DROP], ())]), ("call", "a")])
        self.assertEqual(names, ["b", "a"])


class Equal(unittest.TestCase):
    def test_equal_is_what_has_the_same_words(self):
        self.assertTrue(Program(NESTED, names=["a", "b"]) == Program(tuple(NESTED), names=("b", "c", "a")))
        self.assertTrue(Program([("if", (), (DROP,))]) == Program([("if", [], [DROP])]))
        self.assertFalse(Program([]) != Program(()))

    def test_other_ones_are_not(self):
        programs = [Program(words) for words in (
            [], [DROP], [DROP, DROP], [("push", 1)], [("push", 2)], [("push", (1, 2))], [("if", [DROP], [])],
            [("if", [], [DROP])], [("repeat", 1, [DROP])], [("repeat", 2, [DROP])], [("way", 1, 0)], [("move", 1, 0)])]
        for at, one in enumerate(programs):
            for other_at, other in enumerate(programs):
                self.assertIs(one == other, at == other_at)
                self.assertIs(one != other, at != other_at)

    def test_nothing_else_is(self):
        program = Program([DROP])
        for thing in no_things() + [[DROP], (DROP,), "drop", repr(program), DROP]:
            if not isinstance(thing, Program):
                self.assertIs(program == thing, False)
                self.assertIs(thing == program, False)
                self.assertIs(program != thing, True)

    def test_the_repr(self):
        self.assertEqual(repr(Program([])), "Program([])")
        for words in (NESTED, [("push", (-1, 2))], [("if", [], []), ("round", "grid")]):
            program = Program(tuple(words), names=["a", "b"])
            self.assertEqual(repr(program), "Program(" + repr(words) + ")")


class Refused(unittest.TestCase, Looks):
    def test_what_is_no_list_of_at_most_400_things(self):
        for thing in no_lists():
            self.refused(NoProgram, thing, Program, thing)
            self.refused(NoProgram, thing, Program, names=None, words=thing)

    def test_then_what_is_no_word(self):
        for thing in no_words():
            blocks = [block for block in thing if isinstance(block, (list, tuple))] if isinstance(thing, tuple) else []
            held = blocks and thing[:1] in (("if",), ("repeat",), ("when",))
            if not held:
                self.refused(NoWord, thing, Program, [thing])
                self.refused(NoWord, thing, Program, (DROP, thing, None), names=None)
                self.refused(NoWord, thing, Program, [("if", [DROP], (thing,))])

    def test_a_word_is_looked_at_ahead_of_the_words_of_its_blocks(self):
        bad = ("copy", 1)
        for word in (("repeat", 21, [bad]), ("when", 0, 1, [bad]), ("if", [bad]), ("if", [bad], None),
                     ("if", [bad], [DROP] * 401), ("repeat", 1, [bad] * 401), ("repeat", 1, [bad], []),
                     ("when", 1, 2, DROP * 401)):
            self.refused(NoWord, word, Program, [DROP, word])
            self.refused(NoWord, word, Program, [DROP, ("repeat", 1, [word, bad]), bad])

    def test_the_first_of_several_is_told(self):
        one, two, three = ("copy", 1), ("copy", 2), ("copy", 3)
        self.refused(NoWord, one, Program, [DROP, one, two])
        self.refused(NoWord, one, Program, [("if", [DROP, one], [two]), three])
        self.refused(NoWord, two, Program, [("if", [DROP], [two]), three])
        self.refused(NoWord, three, Program, [("if", [DROP], [DROP]), three])
        self.refused(NoWord, one, Program, [("repeat", 1, [("repeat", 1, [one]), two]), three])
        self.refused(NoWord, one, Program, [("repeat", 1, [one, ("repeat", 1, [two])]), three])

    def test_a_word_of_a_block_that_is_no_list(self):
        for block in (None, "ab", {}, 0, [DROP] * 401):
            for word in (("repeat", 1, block), ("when", 1, 2, block), ("if", [], block), ("if", block, [])):
                self.refused(NoWord, word, Program, [word])

    def test_blocks_six_within_one_another(self):
        self.refused_at(Deep, {"at": 5}, Program, [within(6)])
        self.refused_at(Deep, {"at": 5}, Program, [within(30)])
        self.refused_at(Deep, {"at": 9}, Program, [DROP, within(2), within(6), within(6)])
        self.refused_at(Deep, {"at": 6}, Program, [DROP, within(7)])
        # A block without words would stand within five others, too.
        word = ("if", [], [])
        for _ in range(5):
            word = ("repeat", 1, [DROP, word])
        self.refused_at(Deep, {"at": 10}, Program, [word])

    def test_deep_and_no_word_in_their_order(self):
        bad = ("copy", 1)
        self.refused(NoWord, bad, Program, [bad, within(6)])
        self.refused_at(Deep, {"at": 5}, Program, [within(6), bad])
        self.refused_at(Deep, {"at": 5}, Program, [within(6, bad), bad])
        # Of one word, what it is goes ahead of where its block stands.
        word = ("repeat", 21, [])
        self.refused(NoWord, word, Program, [within(5, word)])
        self.refused(NoWord, bad, Program, [within(5, bad)])
        self.refused_at(Deep, {"at": 5}, Program, [within(5, ("repeat", 1, [bad]))])

    def test_then_too_many(self):
        self.refused_at(TooMany, {"many": 401}, Program, [("repeat", 1, [DROP] * 400)])
        self.refused_at(TooMany, {"many": 401}, Program, [("repeat", 1, [DROP] * 199)] * 2 + [DROP], names=None)
        self.refused_at(TooMany, {"many": 802}, Program, [("if", [DROP] * 400, [DROP] * 400), ("call", "a")])
        shared = ("repeat", 1, [DROP] * 400)
        self.refused_at(TooMany, {"many": 200 * 401}, Program, [shared] * 200)
        bad = ("copy", 1)
        self.refused(NoWord, bad, Program, [("repeat", 1, [DROP] * 400), bad])
        self.refused_at(Deep, {"at": 406}, Program, [("repeat", 1, [DROP] * 400), within(6)])

    def test_then_names(self):
        for thing in [None, True, 0, "", "a", "abc", {}, {"a": 1}, ["a"] * 401, ("a",) * 401] + objects():
            self.refused(NoName, thing, Program, [("call", "b")], names=thing)
            self.refused(NoName, thing, Program, [], names=thing)
        for thing in no_names():
            self.refused(NoName, thing, Program, [("call", "b")], names=["a", thing, None])
            self.refused(NoName, thing, Program, (), names=(thing,))
        self.assertEqual(Program([], names=["a"] * 400).calls(), [])

    def test_then_calls_of_other_names(self):
        for names in ([], (), ["b"], ("aa", "b")):
            self.refused(NoDefinition, "a", Program, [DROP, ("call", "a"), ("call", "c")], names=names)
            self.refused(NoDefinition, "a", Program, [("if", [], [("call", "a")]), ("call", "c")], names=names)
        self.refused(NoDefinition, "a", Program, [("call", "a")])
        self.refused(NoDefinition, "c", Program, [("repeat", 1, [("call", "c")]), ("call", "a")], names=["b"])

    def test_names_by_their_name_alone(self):
        self.assertRaises(TypeError, Program, [], ["a"])


if __name__ == "__main__":
    unittest.main()
