"""Sizes: what a font's first program makes of each, and the shapes that letters have there."""

from hintedpoints.errors import Fault, NoFont
from hintedpoints.fonts import Font, Made, need_size, scaled
from hintedpoints.machine import Machine
from hintedpoints.numbers import plus
from hintedpoints.zones import Zone

STACK = 24
BUDGET = 400


def need_font(thing):
    """Refuses what is no font."""
    if not isinstance(thing, Font):
        raise NoFont(thing)


class Shape:
    """What a letter is at a size; it never changes."""

    def __init__(self, zone, truths):
        self._places = zone.places()
        self._ends = zone.ends()
        self._truths = list(truths)
        self._touched = [zone.touched(point) for point in range(len(zone))]

    def __eq__(self, other):
        if not isinstance(other, Shape):
            return False
        if self._places != other._places or self._ends != other._ends:
            return False
        return self._truths == other._truths and self._touched == other._touched

    def __len__(self):
        return len(self._places)

    def places(self):
        """Tells the places of its points."""
        return list(self._places)

    def ends(self):
        """Tells the numbers of the last points of its rounds."""
        return list(self._ends)

    def truths(self):
        """Tells whether each of its points is on."""
        return list(self._truths)

    def touched(self):
        """Tells of each of its points whether it was touched to the east and to the north."""
        return list(self._touched)


class Size:
    """A font at a size, with what the font's first program made there; it never changes."""

    def __init__(self, font, size, *, stack=STACK, budget=BUDGET):
        need_font(font)
        need_size(size)
        self._font = font
        self._size = size
        self._stack = stack
        self._budget = budget
        self._fault = None
        worths = [scaled(worth, size, font.em()) for worth in font.worths()]
        machine = Machine(font.definitions(), size=size, worths=worths, zone=Zone((), ()), stack=stack, budget=budget)
        if font.first() is not None:
            try:
                machine.run(font.first())
            except Fault as fault:
                self._fault = (fault.done, fault.why)
        self._store = machine.store()
        self._worths = machine.worths()
        self._made_up = machine.zone().made_up()

    def size(self):
        """Tells its size."""
        return self._size

    def store(self):
        """Tells the store that letters' programs find."""
        return list(self._store)

    def worths(self):
        """Tells the worths that letters' programs find."""
        return list(self._worths)

    def made_up(self):
        """Tells the places at first and now of the made-up points that letters' programs find."""
        return list(self._made_up)

    def fault(self):
        """Tells how many words the font's first program did and by what it failed, or None."""
        return self._fault

    def need_no_fault(self):
        """Refuses where the font's first program was refused."""
        if self._fault is not None:
            done, why = self._fault
            raise Fault(done, why)

    def _scaled_place(self, x, y):
        """Tells the place that has two numbers of the font's own units."""
        em = self._font.em()
        return (scaled(x, self._size, em), scaled(y, self._size, em))

    def _points_of(self, letter, shapes):
        """Tells of a letter, by the shapes of its parts, the places at first, the ends and the truths."""
        if not isinstance(letter, Made):
            outline = letter.outline()
            return ([self._scaled_place(x, y) for x, y in outline.places()], outline.ends(), outline.truths())
        places = []
        ends = []
        truths = []
        for name, east, north in letter.parts():
            shape = shapes[name]
            far, high = self._scaled_place(east, north)
            ends.extend([len(places) + end for end in shape.ends()])
            places.extend([(plus(x, far), plus(y, high)) for x, y in shape.places()])
            truths.extend(shape.truths())
        return (places, ends, truths)

    def work_on(self, name, shapes):
        """Tells the machine that has done a letter's program, and the truths, by the shapes of its parts."""
        self.need_no_fault()
        letter = self._font.letter(name)
        places, ends, truths = self._points_of(letter, shapes)
        zone = Zone(places, ends, made_up=self._made_up)
        machine = Machine(self._font.definitions(), size=self._size, worths=self._worths, zone=zone,
                          store=self._store, stack=self._stack, budget=self._budget)
        if letter.program() is not None:
            machine.run(letter.program())
        return (machine, truths)

    def shape_by(self, name, shapes):
        """Tells the shape of a letter, by the shapes of its parts."""
        machine, truths = self.work_on(name, shapes)
        return Shape(machine.zone(), truths)

    def _shape_with(self, name, shapes):
        """Tells the shape of a letter; the shapes of its parts come among those told."""
        for part, _, _ in self._font.letter(name).parts():
            if part not in shapes:
                shapes[part] = self._shape_with(part, shapes)
        return self.shape_by(name, shapes)

    def letter(self, name):
        """Tells the shape of a letter."""
        return self._shape_with(name, {})
