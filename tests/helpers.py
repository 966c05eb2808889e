"""Things that many tests hand in, and the ways in which they look at what is told."""

from fractions import Fraction

from hintedpoints import errors
from hintedpoints.desk import Desk
from hintedpoints.fonts import Font, Letter, Made
from hintedpoints.look import Look
from hintedpoints.machine import Machine
from hintedpoints.outlines import Outline
from hintedpoints.programs import Program
from hintedpoints.sessions import Session
from hintedpoints.sizes import Size
from hintedpoints.zones import Setting, Zone

# Sixty figures, the most that a whole number that is handed in may have.
MOST = 10 ** 60 - 1
# A part of sixty figures above and below, in lowest terms.
LONG_PART = (MOST, MOST - 1)
NUMBERS = [0, 1, -1, 2, 63, 64, -64, (1, 2), (-1, 2), (2, 3), (-7, 4), (129, 128), MOST, -MOST,
           LONG_PART, (-MOST, MOST - 1), (1, MOST), (-1, MOST)]


def deep_thing():
    """A thing of lists, tuples and dicts, six within one another."""
    return [{"a": ([{(1, None): (True,), None: ("x",)}],)}]


def refusals():
    """Refusals, which are things of this package, too."""
    return [errors.NoNumber(1), errors.FontError("1"), errors.Missing("1"), errors.Unready(),
            errors.Fault(1, "lack"), errors.NoSuch("a"), errors.NoBase(0)]


def objects():
    """Objects of this package's classes, refusals left out."""
    outline = Outline([[(0, 0, True), (1, 0, True), (0, 1, True)]])
    font = Font(64, letters=[("a", Letter(outline))])
    return [outline, Program([]), Program([("drop",)]), Letter(outline), Made([("a", 0, 0)]), Font(64), Zone((), ()),
            Setting(), Machine({}, size=1, worths=(), zone=Zone((), ())), Size(font, 1), Size(font, 1).letter("a"),
            Session(font), Look(Program([])), Desk()]


def no_things():
    """Things that are neither numbers, places, ways, kinds of rounding, names, texts of numbers nor lists of one
    of these."""
    return [True, False, None, "", " ", "what is this?", "x" * 40000, [], {}, (), [None], {"a": 1}, {1: 2},
            (None,), ("a", "b"), (1, 2, 3, 4), (True, False), deep_thing()] + refusals() + objects()


def no_numbers():
    """Things that are no numbers, those that look like some with them."""
    return no_things() + ["1", "1/2", "0", [1], [1, 2], (1,), (1, 2, 3), (1, 1), (5, 1), (2, 4), (-3, 6), (0, 2),
                          (0, 1), (1, 0), (0, 0), (1, -2), (-1, -2), (True, 2), (1, True), (False, 3), (1, False),
                          (1, "2"), ("1", 2), (None, 2), (1, None), ((1, 2), 3), (1, (2, 3)), {1: 2, 3: 4},
                          (MOST, MOST), (MOST - 1, 2)]


def number(exact):
    """The number of this package that a Fraction is."""
    exact = Fraction(exact)
    if exact.denominator == 1:
        return exact.numerator
    return (exact.numerator, exact.denominator)


def exact(thing):
    """The Fraction that a number of this package is."""
    if isinstance(thing, tuple):
        return Fraction(*thing)
    return Fraction(thing)


def small_numbers():
    """Numbers around nought, whole ones and parts, rising."""
    return [number(each) for each in sorted({Fraction(top, base) for top in range(-7, 8) for base in (1, 2, 3, 4)})]


class Looks:
    """What test cases use to look at what was told."""

    def same_number(self, found, wanted):
        """Is this very number told, in its only form, and of whole numbers that are no truths?"""
        self.assertEqual(found, number(wanted))
        parts = found if isinstance(found, tuple) else (found,)
        for part in parts:
            self.assertIs(type(part), int)

    def refused(self, kind, thing, act, /, *places, **names):
        """Is this refused with this very class, and is its field the very thing?"""
        with self.assertRaises(kind) as caught:
            act(*places, **names)
        self.assertIs(type(caught.exception), kind)
        self.assertIs(caught.exception.found, thing)

    def refused_at(self, kind, fields, act, /, *places, **names):
        """Is this refused with this very class, and are its fields equal to these, by their names?"""
        with self.assertRaises(kind) as caught:
            act(*places, **names)
        self.assertIs(type(caught.exception), kind)
        self.assertEqual(vars(caught.exception), fields)

    def refused_both(self, one, other, act, /, *places, **names):
        """Is this refused with NoWay of the tuple of these two very things?"""
        with self.assertRaises(errors.NoWay) as caught:
            act(*places, **names)
        found = caught.exception.found
        self.assertIs(type(caught.exception), errors.NoWay)
        self.assertIs(type(found), tuple)
        self.assertEqual(len(found), 2)
        self.assertIs(found[0], one)
        self.assertIs(found[1], other)
