"""A model of sizes and their shapes, by the model of the machine and Python's fractions."""

from fractions import Fraction

from hintedpoints.fonts import Made
from tests.model import Model, Stop, told

NOWHERE = [((0, 0), (0, 0))] * 4


class SizeModel:
    """A font at a size: its store, worths and made-up points, its fault, and the shapes of its letters."""

    def __init__(self, font, size, stack=24, budget=400):
        self.font, self.size, self.limits, self.fault = font, size, (stack, budget), None
        self.blocks = {name: program.words() for name, program in font.definitions().items()}
        self.store, self.made_up = [Fraction(0)] * 8, NOWHERE
        self.worths = [self.scaled(each) for each in font.worths()]
        if font.first() is not None:
            try:
                model = self.run(font.first(), [], [])
                self.store, self.worths = model.store, model.worths
                self.made_up = [(model.points[at]["first"], model.points[at]["now"]) for at in (-1, -2, -3, -4)]
            except Stop as stop:
                self.fault = stop.args

    def scaled(self, number):
        return Fraction(number * self.size * 64, self.font.em())

    def run(self, program, places, ends):
        """A machine of this size that has done a program."""
        model = Model(self.blocks, self.size, self.worths, places, ends, self.made_up, self.store, *self.limits)
        if program is not None:
            model.words(program.words())
        return model

    def told(self):
        """All that a Size tells of itself."""
        made_up = [tuple(tuple(told(Fraction(each)) for each in place) for place in pair) for pair in self.made_up]
        return ([told(each) for each in self.store], [told(each) for each in self.worths], made_up, self.fault)

    def shape(self, name):
        """The places, ends, truths and touches of a letter; or Stop."""
        if self.fault is not None:
            raise Stop(*self.fault)
        letter = self.font.letter(name)
        places, ends, truths = [], [], []
        if isinstance(letter, Made):
            for part, east, north in letter.parts():
                moved, part_ends, part_truths, _ = self.shape(part)
                ends += [len(places) + end for end in part_ends]
                places += [(x + self.scaled(east), y + self.scaled(north)) for x, y in moved]
                truths += part_truths
        else:
            for points in letter.outline().rounds():
                places += [(self.scaled(x), self.scaled(y)) for x, y, _ in points]
                truths += [on for _, _, on in points]
                ends.append(len(places) - 1)
        model = self.run(letter.program(), places, ends)
        points = [model.points[at] for at in range(len(places))]
        return [point["now"] for point in points], ends, truths, [point["touched"] for point in points]

    def told_shape(self, name):
        """What a Shape of a letter tells; or Stop."""
        places, ends, truths, touched = self.shape(name)
        return [tuple(told(each) for each in place) for place in places], ends, truths, touched
