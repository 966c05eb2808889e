"""Texts of programs: points 34 and 35."""

import random
import unittest

from hintedpoints.errors import Deep, NoDefinition, NoName, NoProgram, NoRow, NoText, NoWord, TooMany
from hintedpoints.programs import Program, read_program
from tests.helpers import LONG_PART, MOST, Looks, no_things, objects
from tests.test_programs import NESTED
from tests.test_words import PLAIN, within

DROP = ("drop",)
# Rows that stand nowhere in a text.
BAD_ROWS = [
    "", " ", "drop ", " drop", "drop  ", "Drop", "DROP", "dropp", "drop 1", "drop drop", "push", "push  1", "push 1 ",
    " push 1", "push 1  ", "push\t1", "push +1", "push 01", "push 1.0", "push 1/0", "push 1/-2", "push --1", "push -",
    "push 1 2", "push x", "push /2", "push 1/", "push " + "9" * 61, "push 1/" + "9" * 61, "push None", "push True",
    "pick", "pick 0", "pick 9", "pick 1/2", "pick -1", "pick 1 1", "way 1", "way 1 1", "way 1 0 1", "way 0 0",
    "way 1001 0", "way 3/5 4/5", "move 1", "measure  1 0", "round", "round  grid", "round grid ", "round 64", "round x",
    "round grid grid", "round Grid", "rest", "rest west", "rest east north", "rest  east", "call", "call A",
    "call abcdefghi", "call  a", "call a ", "call a b", "call 1", "if 1", "if ", "repeat", "repeat 21", "repeat -1",
    "repeat 1/2", "repeat x", "repeat 1 2", "when", "when 1", "when 1 201", "when 0 1", "when 1 2 3", "when 1  2",
    "end ", " end", "else ", " else", "end 1", "else if", "END", "('drop',)", "[]", "#", "push 1\r", "~"]


def deep_text(many, opened, ended):
    """A text of so many blocks within one another."""
    return "\n".join([opened] * many + [ended] * many)


class Written(unittest.TestCase):
    def test_each_plain_word(self):
        for word, _, _ in PLAIN:
            text = str(Program([word]))
            self.assertEqual(Program([word]).text(), text)
            self.assertEqual(text.split(" ")[0], word[0])
            self.assertEqual(read_program(text), Program([word]))

    def test_by_hand(self):
        for words, text in [
                ([], ""), ([DROP], "drop"), ([("push", 0)], "push 0"), ([("push", -7)], "push -7"),
                ([("push", (-1, 2))], "push -1/2"), ([("push", LONG_PART)], f"push {MOST}/{MOST - 1}"),
                ([("pick", 3), DROP], "pick 3\ndrop"), ([("way", -3, 4)], "way -3 4"),
                ([("measure", 0, 1), ("move", 1, 0)], "measure 0 1\nmove 1 0"), ([("round", "half")], "round half"),
                ([("rest", "north")], "rest north"), ([("call", "abc")], "call abc"),
                ([("if", [], [])], "if\nelse\nend"), ([("if", [DROP], [])], "if\ndrop\nelse\nend"),
                ([("if", [], [DROP])], "if\nelse\ndrop\nend"), ([("repeat", 0, [])], "repeat 0\nend"),
                ([("when", 200, 1, [DROP, DROP])], "when 200 1\ndrop\ndrop\nend"),
                (NESTED, "push 1\nif\ncopy\nrepeat 2\ndrop\nend\nelse\ncall b\nend\ncall a\ncall b")]:
            program = Program(words, names=["a", "b", "abc"])
            self.assertEqual(program.text(), text)
            self.assertEqual(str(program), text)
            self.assertEqual(read_program(text, names=("b", "a", "abc")), program)
            self.assertEqual(read_program(text=text, names=["b", "a", "abc"]).words(), program.words())

    def test_what_is_written_is_read_as_the_same(self):
        chance = random.Random(34)
        for _ in range(200):
            program = Program(self.words(chance, 5), names=["a", "b"])
            self.assertEqual(read_program(program.text(), names=program.calls()), program)

    def words(self, chance, deep):
        """Some words, with blocks in which blocks stand."""
        told = []
        for _ in range(chance.randint(0, 4)):
            kind = chance.randint(0, 9) if deep else 9
            if kind == 0:
                told.append(("if", self.words(chance, deep - 1), self.words(chance, deep - 1)))
            elif kind == 1:
                told.append(("repeat", chance.randint(0, 20), self.words(chance, deep - 1)))
            elif kind == 2:
                told.append(("when", chance.randint(1, 200), chance.randint(1, 200), self.words(chance, deep - 1)))
            elif kind == 3:
                told.append(("call", chance.choice("ab")))
            else:
                told.append(chance.choice(PLAIN)[0])
        return told

    def test_of_400_words_that_are_long(self):
        program = Program([("push", LONG_PART)] * 400)
        self.assertGreater(len(program.text()), 40000)
        self.assertEqual(read_program(program.text()), program)


class Read(unittest.TestCase, Looks):
    def test_the_text_without_signs(self):
        self.assertEqual(read_program(""), Program([]))
        self.assertEqual(read_program("", names=["a"]), Program([]))

    def test_numbers_are_read_as_texts_of_numbers_are(self):
        for text, word in [("push -0", ("push", 0)), ("push 2/4", ("push", (1, 2))), ("push 4/2", ("push", 2)),
                           ("push -6/4", ("push", (-3, 2))), ("push 0/7", ("push", 0)), ("push -0/7", ("push", 0)),
                           ("pick 16/2", ("pick", 8)), ("way -0 5/5", ("way", 0, 1)), ("way 6/2 -4/1", ("way", 3, -4)),
                           ("push " + "9" * 60, ("push", MOST)), (f"push {MOST}/{MOST}", ("push", 1))]:
            self.assertEqual(read_program(text).words(), [word])
        self.assertEqual(read_program("repeat -0\nend\nwhen 8/4 200/1\nend").words(),
                         [("repeat", 0, []), ("when", 2, 200, [])])

    def test_blocks_are_told_as_lists(self):
        told = read_program("if\nrepeat 2\nend\nelse\nif\nelse\nend\nend").words()
        self.assertEqual(told, [("if", [("repeat", 2, [])], [("if", [], [])])])

    def test_refused_is_what_is_no_text(self):
        for thing in no_things() + objects() + [0, 1, ["drop"], ("drop",), [""], None]:
            if not isinstance(thing, str):
                self.refused(NoText, thing, read_program, thing)
                self.refused(NoText, thing, read_program, names=None, text=thing)

    def test_then_the_first_row_that_cannot_stand(self):
        for row in BAD_ROWS:
            text = "\n".join(["drop", row, "drop", "what?"])
            self.refused_at(NoRow, {"at": 1}, read_program, text)
            self.refused_at(NoRow, {"at": 2}, read_program, "\n".join(["if", "drop", row, "else", "end"]), names=None)
            if row:
                self.refused_at(NoRow, {"at": 0}, read_program, row)
        for text, at in [("\n", 0), ("drop\n", 1), ("drop\n\n", 1), ("\ndrop", 0), ("drop\n\ndrop", 1),
                         ("repeat 1\nend\n", 2), ("repeat 1\n", 1), ("x\ny", 0), ("drop\nx\ny", 1)]:
            self.refused_at(NoRow, {"at": at}, read_program, text)

    def test_rows_else_and_end_where_they_cannot_stand(self):
        for text, at in [
                ("else", 0), ("end", 0), ("drop\nend", 1), ("drop\nelse\nend", 1), ("repeat 1\nelse\nend", 1),
                ("when 1 2\nelse\nend", 1), ("if\nend", 1), ("if\ndrop\nend", 2), ("if\nelse\nelse\nend", 2),
                ("if\nelse\nend\nend", 3), ("if\nelse\nend\nelse", 3), ("repeat 1\nend\nend", 2),
                ("if\nrepeat 1\nelse\nend\nend", 2), ("if\nrepeat 1\nend\nend", 3),
                ("repeat 1\nif\nelse\nend\nelse\nend", 4), ("if\nelse\nrepeat 1\nelse", 3),
                ("if\nif\nelse\nend\nend", 4)]:
            self.refused_at(NoRow, {"at": at}, read_program, text)

    def test_then_blocks_that_have_not_ended(self):
        for text, many in [("if", 1), ("repeat 1", 1), ("when 1 2\ndrop", 2), ("if\nelse", 2), ("if\nelse\ndrop", 3),
                           ("repeat 1\nif\nelse\nend", 4), ("repeat 1\nrepeat 1\nend", 3)]:
            self.refused_at(NoRow, {"at": many}, read_program, text)
            self.refused_at(NoRow, {"at": many}, read_program, text, names=None)

    def test_rows_that_write_words_which_no_program_has(self):
        rows = ["drop"] * 401
        self.refused_at(NoProgram, {"found": [DROP] * 401}, read_program, "\n".join(rows))
        self.refused_at(NoProgram, {"found": [DROP] * 401}, read_program, "\n".join(rows), names=None)
        self.refused_at(NoRow, {"at": 401}, read_program, "\n".join(rows + ["x"]))
        block = "\n".join(["repeat 3"] + rows + ["end"])
        self.refused_at(NoWord, {"found": ("repeat", 3, [DROP] * 401)}, read_program, block)
        both = "\n".join(["if"] + rows + ["else", "end", "x"])
        self.refused_at(NoRow, {"at": 404}, read_program, both)
        self.refused_at(NoWord, {"found": ("if", [DROP] * 401, [])}, read_program, both[:-2], names=None)
        for word in ("repeat 3", "when 1 2"):
            text = "\n".join([word] + rows[:400] + ["end"])
            self.refused_at(TooMany, {"many": 401}, read_program, text, names=None)
        self.assertEqual(len(read_program("\n".join(rows[:400]))), 400)

    def test_then_names(self):
        for thing in [None, "a", 1, {}, ["a"] * 401]:
            self.refused(NoName, thing, read_program, "call b", names=thing)
            self.refused(NoName, thing, read_program, "", names=thing)
            self.refused_at(NoRow, {"at": 0}, read_program, "x", names=thing)
        self.refused(NoName, "A", read_program, "call b", names=["b", "A", None])
        self.refused_at(NoDefinition, {"found": "b"}, read_program, "drop\ncall b\ncall c", names=["a"])
        self.refused_at(NoDefinition, {"found": "b"}, read_program, "if\nelse\ncall b\nend\ncall a")

    def test_five_blocks_within_one_another_and_six(self):
        self.assertEqual(read_program(Program([within(5)]).text()), Program([within(5)]))
        self.refused_at(Deep, {"at": 5}, read_program, deep_text(6, "repeat 1", "end"))
        self.refused_at(Deep, {"at": 6}, read_program, "drop\n" + deep_text(6, "if", "else\nend"))
        self.assertEqual(read_program(deep_text(5, "when 1 2", "end")).deep(), 5)

    def test_blocks_as_deep_as_signs_let_by(self):
        for many, opened, ended in ((3076, "repeat 1", "end"), (3333, "if", "else\nend"), (3076, "when 1 2", "end"),
                                    (3000, "if\nelse", "end")):
            text = deep_text(many, opened, ended)
            self.refused_at(Deep, {"at": 5}, read_program, text)
            self.refused_at(Deep, {"at": 5}, read_program, text, names=None)
            self.refused_at(NoRow, {"at": text.count("\n") + 1}, read_program, text + "\nend")
            open_text = text[:-4]
            self.refused_at(NoRow, {"at": open_text.count("\n") + 1}, read_program, open_text)
        self.refused_at(NoRow, {"at": 13333}, read_program, "\n".join(["if"] * 13333))
        deep = deep_text(2000, "repeat 1", "end")
        self.refused_at(Deep, {"at": 405}, read_program, "repeat 2\n" + "drop\n" * 399 + "end\n" + deep)
        self.refused_at(NoProgram, {"found": [DROP] * 401}, read_program, "\n".join(["drop"] * 401))

    def test_deep_blocks_behind_a_word_that_is_none(self):
        long = "\n".join(["repeat 2"] + ["drop"] * 401 + ["end"])
        deep = deep_text(2000, "repeat 1", "end")
        self.refused_at(NoWord, {"found": ("repeat", 2, [DROP] * 401)}, read_program, long + "\n" + deep)
        self.refused_at(Deep, {"at": 5}, read_program, deep + "\n" + long)
        with self.assertRaises(NoProgram) as caught:
            read_program("\n".join([deep_text(100, "repeat 1", "end")] + ["drop"] * 400))
        self.assertEqual(len(caught.exception.found), 401)


if __name__ == "__main__":
    unittest.main()
