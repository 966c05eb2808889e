"""The interface: names, arguments, and the files in which each is defined."""

import importlib
import inspect
import unittest

DEFS = {
    "numbers": {
        "is_whole": "(thing, low, high)", "is_name": "(thing)", "is_number": "(thing)", "fraction": "(top, base)",
        "plus": "(one, other)", "minus": "(one, other)", "times": "(one, other)", "over": "(one, other)",
        "bare_of": "(number)", "floor_of": "(number, *, step=1)", "sign_of": "(number)", "less": "(one, other)",
        "number_text": "(number)", "number_of": "(thing)", "rising": "(numbers, *, down=False)",
        "total": "(numbers, *, start=0)",
    },
    "ways": {
        "way_of": "(a, b)", "is_way": "(thing)", "measure": "(place, way)", "slide": "(place, by, *, way=(1, 0, 1))",
        "moved": "(place, by, *, move=(1, 0, 1), along=(1, 0, 1))",
    },
    "rounds": {
        "rounder": "(kind)", "by_period": "(period, phase=0)", "rounded": "(distance, *, kind='grid', least=0)",
    },
    "outlines": {"joined": "(outlines)", "polygons": "(places, ends, truths, *, cuts=2)"},
    "turns": {"turns": "(parts)", "first_crossing": "(parts)", "judged": "(before, after)"},
    "words": {"is_word": "(thing)", "effect": "(word)"},
    "programs": {"read_program": "(text, *, names=())"},
    "fonts": {"scaled": "(number, size, em)"},
    "moves": {
        "settled": "(zone, setting, point)", "put_at": "(zone, setting, point, worth)",
        "far_from": "(zone, setting, point)", "far_by": "(zone, setting, point, worth)",
        "lined": "(zone, setting, point)", "amid": "(zone, setting, point)", "carried": "(number, ahead, behind)",
        "shifted": "(zone, setting, point, distance)", "crossing": "(zone, setting, point, *, a, b, c, d)",
        "rested": "(zone, line)",
    },
    "cells": {
        "cells": "(parts, *, rule='round', drops=True)",
        "cell_of": "(parts, column, row, *, rule='round', drops=True)", "in_both": "(spans, others)",
        "picture": "(spans, *, full='x', bare='.')",
    },
    "look": {"gone_by": "(program, truths, *, definitions=None, size=None, stack=24, budget=400)"},
    "straight": {"straight": "(font, name, *, size)"},
    "shorten": {
        "shortenings": "(program)", "shortened_by": "(program, *, rule, path)", "shortened": "(program)",
    },
    "fonttext": {"show_font": "(font)", "read_font": "(text)"},
}
# Of each class how it is made, and its methods, each of which stands in the class itself.
CLASSES = {
    "outlines": {"Outline": {
        "__init__": "(self, rounds)", "rounds": "(self)", "points": "(self)", "places": "(self)", "truths": "(self)",
        "ends": "(self)", "moved": "(self, *, east=0, north=0)", "__eq__": "(self, other)", "__len__": "(self)",
        "__str__": "(self)", "__repr__": "(self)"}},
    "programs": {"Program": {
        "__init__": "(self, words, *, names=())", "words": "(self)", "calls": "(self)", "deep": "(self)",
        "text": "(self)", "__eq__": "(self, other)", "__len__": "(self)", "__str__": "(self)", "__repr__": "(self)"}},
    "fonts": {
        "Letter": {
            "__init__": "(self, outline, *, program=None)", "outline": "(self)", "program": "(self)", "parts": "(self)",
            "__eq__": "(self, other)"},
        "Made": {
            "__init__": "(self, parts, *, program=None)", "outline": "(self)", "program": "(self)", "parts": "(self)",
            "__eq__": "(self, other)"},
        "Font": {
            "__init__": "(self, em, *, worths=(), definitions=(), first=None, letters=())", "em": "(self)",
            "worths": "(self)", "names": "(self)", "definitions": "(self)", "first": "(self)", "__len__": "(self)",
            "__eq__": "(self, other)", "letter": "(self, name)", "leaves": "(self, name)", "hangs_on": "(self, name)",
            "replaced": "(self, name, letter)"}},
    "zones": {
        "Zone": {
            "__init__": "(self, places, ends, *, made_up=None)", "__eq__": "(self, other)", "__len__": "(self)",
            "first": "(self, point)", "now": "(self, point)", "touched": "(self, point)", "places": "(self)",
            "ends": "(self)", "made_up": "(self)"},
        "Setting": {
            "__init__": "(self, *, move=(1, 0, 1), along=(1, 0, 1), kind='grid', least=64, cutin=68, lean=0, "
                        "holds=(0, 0))",
            "told": "(self)", "__eq__": "(self, other)",
            "changed": "(self, *, move=None, along=None, kind=None, least=None, cutin=None, lean=None, holds=None)"}},
    "machine": {"Machine": {
        "__init__": "(self, definitions, *, size, worths, zone, store=None, stack=24, budget=400)",
        "run": "(self, program)", "store": "(self)", "worths": "(self)", "stack": "(self)", "zone": "(self)",
        "trail": "(self)", "log": "(self)", "at_rest": "(self)"}},
    "sizes": {
        "Size": {
            "__init__": "(self, font, size, *, stack=24, budget=400)", "size": "(self)", "store": "(self)",
            "worths": "(self)", "made_up": "(self)", "fault": "(self)", "letter": "(self, name)"},
        "Shape": {
            "places": "(self)", "ends": "(self)", "truths": "(self)", "touched": "(self)", "__len__": "(self)",
            "__eq__": "(self, other)"}},
    "sessions": {"Session": {
        "__init__": "(self, font, *, keep=3, stack=24, budget=400)", "letter": "(self, name, *, size)",
        "shapes": "(self, names, *, size)", "kept": "(self)", "forget": "(self, *, size=None)", "log": "(self)",
        "cleared": "(self)", "at_work": "(self)"}},
    "look": {"Look": {
        "__init__": "(self, program, *, definitions=None, size=None, stack=24, budget=400)", "ends": "(self)",
        "faults": "(self)", "top": "(self)", "idle": "(self)"}},
    "desk": {"Desk": {
        "__init__": "(self, *, keep=3, stack=24, budget=400)", "say": "(self, line)", "rows": "(self)",
        "at_work": "(self)", "__len__": "(self)"}},
}


class Interface(unittest.TestCase):
    def test_defs_stand_in_their_files_with_their_arguments(self):
        for name, table in DEFS.items():
            module = importlib.import_module("hintedpoints." + name)
            for each, arguments in table.items():
                told = getattr(module, each)
                self.assertTrue(inspect.isfunction(told), each)
                self.assertEqual(told.__module__, module.__name__, each)
                self.assertEqual(told.__name__, each)
                self.assertEqual(str(inspect.signature(told)), arguments, each)

    def test_classes_stand_in_their_files_with_their_methods(self):
        for name, classes in CLASSES.items():
            module = importlib.import_module("hintedpoints." + name)
            for each, methods in classes.items():
                told = getattr(module, each)
                self.assertTrue(inspect.isclass(told), each)
                self.assertEqual((told.__module__, told.__name__), (module.__name__, each))
                for method, arguments in methods.items():
                    self.assertIn(method, vars(told), each)
                    self.assertEqual(str(inspect.signature(vars(told)[method])), arguments, (each, method))

    def test_refusals_stand_in_their_file(self):
        module = importlib.import_module("hintedpoints.errors")
        for name, thing in vars(module).items():
            if inspect.isclass(thing):
                self.assertEqual(thing.__module__, module.__name__, name)

    def test_kinds_of_rounding_are_told_as_defs(self):
        rounds = importlib.import_module("hintedpoints.rounds")
        for kind in ("grid", "half", "double", "down", "up", "off"):
            self.assertTrue(inspect.isfunction(rounds.rounder(kind)), kind)
        self.assertTrue(inspect.isfunction(rounds.by_period(64)))


if __name__ == "__main__":
    unittest.main()
