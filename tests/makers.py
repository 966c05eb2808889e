"""Makes random programs, and fonts of them."""

import random

from hintedpoints.fonts import Font, Letter, Made
from hintedpoints.outlines import Outline
from hintedpoints.programs import Program

NUMBERS = [0, 0, 0, 1, -1, 2, 3, 5, 7, 32, 64, -64, 100, -30, (1, 2), (-7, 3), (129, 2), 33, 65]
MOST = 10 ** 60 - 1
WAYS = [(1, 0), (0, 1), (1, 0), (0, 1), (3, 4), (-4, 3), (-1, 0), (5, 12), (600, 800)]
KINDS = ["grid", "half", "double", "down", "up", "off"]
NAMES = ["a", "b", "c"]
FREE = ["copy", "drop", "swap", "plus", "minus", "times", "over", "over", "over", "lesser", "greater", "same", "both",
        "either", "negate", "bare", "floor", "ceil", "not", "height", "size"]


class Maker:
    """Makes random things."""

    def __init__(self, seed):
        self.chance = random.Random(seed)

    def number(self):
        if self.chance.random() < 0.02:
            return self.chance.choice([MOST, -MOST, (1, MOST), (MOST, MOST - 1)])
        return self.chance.choice(NUMBERS) if self.chance.random() < 0.6 else self.chance.randint(-400, 400)

    def place(self):
        return (self.number(), self.number())

    def point(self, many):
        if self.chance.random() < 0.03:
            return self.chance.choice([many, -5, (1, 2), MOST])
        if many == 0 or self.chance.random() < 0.1:
            return self.chance.randint(-4, -1)
        return self.chance.randint(0, many - 1)

    def listed(self, low, high):
        return self.chance.randint(low, high) if self.chance.random() < 0.98 else self.number()

    def moving(self, many, worths):
        """Some words that move a point, with what they take."""
        name = self.chance.choice(["settle", "put", "far", "by", "line", "amid", "shift", "across", "place", "was",
                                   "lean", "hold"])
        things = {"put": 1, "by": 1, "shift": 1, "hold": 1, "across": 4}.get(name, 0)
        words = [("push", self.point(many))]
        for _ in range(things):
            thing = self.point(many)
            if name in ("put", "by"):
                thing = self.listed(0, max(worths - 1, 0))
            if name == "shift":
                thing = self.number()
            words.append(("push", thing))
        return words + [(name,)]

    def setting(self):
        a, b = self.chance.choice(WAYS)
        name = self.chance.choice(["way", "way", "measure", "move", "round", "period", "least", "cutin", "rest",
                                   "rest"])
        if name in ("way", "measure", "move"):
            return [(name, a, b)]
        if name == "round":
            return [("round", self.chance.choice(KINDS))]
        if name == "rest":
            return [("rest", self.chance.choice(["east", "north"]))]
        if name == "period":
            return [("push", self.chance.choice([64, 48, (7, 3)])), ("push", self.chance.choice([0, 2, (1, 2), 48])),
                    ("period",)]
        return [("push", self.chance.choice([0, 1, 20, 64, 100, -1, (1, 2)])), (name,)]

    def keeping(self, worths):
        name = self.chance.choice(["load", "keep", "worth", "setworth"])
        high = 7 if name in ("load", "keep") else max(worths - 1, 0)
        ahead = [("push", self.number())] if name in ("keep", "setworth") else []
        return ahead + [("push", self.listed(0, high)), (name,)]

    def reckoning(self):
        """A word that takes what was put ahead of it, mostly."""
        many = self.chance.choice([2, 2, 2, 2, 2, 2, 1, 0])
        word = (self.chance.choice(FREE),) if self.chance.random() < 0.9 else ("pick", self.chance.randint(1, many + 1))
        return [("push", self.number()) for _ in range(many)] + [word]

    def words(self, many, worths, names, deep, length):
        told_words = []
        while len(told_words) < length:
            kind = self.chance.random()
            if kind < 0.35:
                told_words += self.moving(many, worths)
            elif kind < 0.55:
                told_words += self.setting()
            elif kind < 0.65:
                told_words += self.keeping(worths)
            elif kind < 0.75:
                told_words.append(("push", self.number()))
            elif kind < 0.85:
                told_words += self.reckoning()
            elif deep and kind < 0.97:
                told_words += self.led(many, worths, names, deep - 1)
            elif names:
                told_words.append(("call", self.chance.choice(names)))
        return told_words

    def led(self, many, worths, names, deep):
        blocks = [self.words(many, worths, names, deep, self.chance.randint(0, 4)) for _ in (0, 1)]
        kind = self.chance.randint(0, 2)
        if kind == 0:
            return [("push", self.chance.choice([0, 1])), ("if", *blocks)]
        if kind == 1:
            return [("repeat", self.chance.choice([0, 1, 2, 3, 20]), blocks[0])]
        return [("when", self.chance.randint(1, 40), self.chance.randint(1, 40), blocks[0])]

    def ends(self, many):
        if not many:
            return []
        return sorted(self.chance.sample(range(many - 1), min(many - 1, self.chance.randint(0, 3)))) + [many - 1]


class FontMaker(Maker):
    """Makes random fonts."""

    def program(self, many, worths, names, length):
        """A program for so many points, or None."""
        if self.chance.random() < 0.25:
            return None
        return Program(self.words(many, worths, names, 2, self.chance.randint(0, length)), names=names)

    def rounds(self):
        """Rounds of an outline."""
        return [[(self.chance.randint(-900, 900), self.chance.randint(-900, 900), self.chance.random() < 0.7)
                 for _ in range(self.chance.randint(3, 6))] for _ in range(self.chance.choice([1, 1, 1, 2]))]

    def parts(self, counts):
        """Parts of a made letter, which has four rounds at most, or None; counts are (points, rounds) by names."""
        parts = [(self.chance.choice(list(counts)), self.chance.randint(-300, 300), self.chance.randint(-300, 300))
                 for _ in range(self.chance.randint(1, 3))]
        return parts if sum(counts[name][1] for name, _, _ in parts) <= 4 else None

    def letters(self, worths, names, many):
        """So many letters with their names."""
        rows = []
        counts = {}
        while len(rows) < many:
            name = "abcdefghijklmnopqrstuvwx"[len(rows)]
            parts = self.parts(counts) if counts and self.chance.random() < 0.5 else None
            if parts:
                points, rounds = (sum(counts[part][at] for part, _, _ in parts) for at in (0, 1))
                letter = Made(parts, program=self.program(points, worths, names, 8))
            else:
                outline = Outline(self.rounds())
                points, rounds = len(outline), len(outline.rounds())
                letter = Letter(outline, program=self.program(points, worths, names, 8))
            counts[name] = (points, rounds)
            rows.append((name, letter))
        return rows

    def font(self, many=5):
        """A font of so many letters."""
        worths = [self.chance.randint(-500, 500) for _ in range(self.chance.choice([0, 2, 4, 12]))]
        definitions = []
        for name in ("x", "yy", "zzz")[:self.chance.randint(0, 3)]:
            ahead = [each for each, _ in definitions]
            definitions.append((name, Program(self.words(0, len(worths), ahead, 1, 3), names=ahead)))
        names = [each for each, _ in definitions]
        first = self.program(0, len(worths), names, 5)
        return Font(self.chance.choice([16, 64, 1000, 1024, 4096]), worths=worths, definitions=definitions, first=first,
                    letters=self.letters(len(worths), names, many))
