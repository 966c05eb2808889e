"""The interface: names, arguments, and the files in which each is defined."""

import importlib
import inspect
import unittest

DEFS = {
    "numbers": {
        "is_whole": "(thing, low, high)", "is_name": "(thing)", "is_number": "(thing)", "fraction": "(top, base)",
        "plus": "(one, other)", "minus": "(one, other)", "times": "(one, other)", "over": "(one, other)",
        "bare_of": "(number)", "floor_of": "(number, *, step=1)", "sign_of": "(number)", "less": "(one, other)",
        "number_text": "(number)", "number_of": "(thing)", "rising": "(numbers, *, down=False)",
        "total": "(numbers, *, start=0)",
    },
    "ways": {
        "way_of": "(a, b)", "is_way": "(thing)", "measure": "(place, way)", "slide": "(place, by, *, way=(1, 0, 1))",
        "moved": "(place, by, *, move=(1, 0, 1), along=(1, 0, 1))",
    },
    "rounds": {
        "rounder": "(kind)", "by_period": "(period, phase=0)", "rounded": "(distance, *, kind='grid', least=0)",
    },
}


class Interface(unittest.TestCase):
    def test_defs_stand_in_their_files_with_their_arguments(self):
        for name, table in DEFS.items():
            module = importlib.import_module("hintedpoints." + name)
            for each, arguments in table.items():
                told = getattr(module, each)
                self.assertTrue(inspect.isfunction(told), each)
                self.assertEqual(told.__module__, module.__name__, each)
                self.assertEqual(told.__name__, each)
                self.assertEqual(str(inspect.signature(told)), arguments, each)

    def test_refusals_stand_in_their_file(self):
        module = importlib.import_module("hintedpoints.errors")
        for name, thing in vars(module).items():
            if inspect.isclass(thing):
                self.assertEqual(thing.__module__, module.__name__, name)

    def test_kinds_of_rounding_are_told_as_defs(self):
        rounds = importlib.import_module("hintedpoints.rounds")
        for kind in ("grid", "half", "double", "down", "up", "off"):
            self.assertTrue(inspect.isfunction(rounds.rounder(kind)), kind)
        self.assertTrue(inspect.isfunction(rounds.by_period(64)))


if __name__ == "__main__":
    unittest.main()
