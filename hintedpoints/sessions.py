"""Sessions: the shapes of a font's letters, those of the sizes asked last kept."""

from hintedpoints.errors import NoLimit, NoSize, NoSuch
from hintedpoints.fonts import need_size
from hintedpoints.machine import need_limits
from hintedpoints.numbers import MOST_THINGS, is_list, is_whole
from hintedpoints.sizes import BUDGET, STACK, Size, need_font
from hintedpoints.words import is_size

MOST_KEPT = 8


def need_session_limits(keep, stack, budget):
    """Refuses what is no number of sizes to keep, no most of a stack, and no budget."""
    if not is_whole(keep, 1, MOST_KEPT):
        raise NoLimit(keep)
    need_limits(stack, budget)


class Session:
    """A font, with kept sizes and a log; it changes by what it is asked."""

    def __init__(self, font, *, keep=3, stack=STACK, budget=BUDGET):
        need_font(font)
        need_session_limits(keep, stack, budget)
        self._font = font
        self._most = keep
        self._stack = stack
        self._budget = budget
        # By each kept size, the one asked longest ago first: the Size, and the shapes told there by their names.
        self._by_size = {}
        self._log = []
        self._begun = 0

    def _used(self, size):
        """Tells the row of a size, which is kept from now on as the one asked last."""
        row = self._by_size.pop(size, None)
        if row is None:
            row = (Size(self._font, size, stack=self._stack, budget=self._budget), {})
            if len(self._by_size) == self._most:
                del self._by_size[self.kept()[0]]
        self._by_size[size] = row
        return row

    def _shape_at(self, name, here, shapes):
        """Tells the shape of a letter at a Size, kept or new, and puts the rows of that into the log."""
        if name in shapes:
            self._log.append(("kept", name, here.size()))
            return shapes[name]
        end = ("out", name, here.size())
        self._log.append(("in", name, here.size()))
        self._begun += 1
        try:
            here.need_no_fault()
            for part, _, _ in self._font.letter(name).parts():
                self._shape_at(part, here, shapes)
            shapes[name] = here.shape_by(name, shapes)
        finally:
            self._begun -= 1
            self._log.append(end)
        return shapes[name]

    def letter(self, name, *, size):
        """Tells the shape of a letter at a size."""
        self._font.letter(name)
        need_size(size)
        here, shapes = self._used(size)
        return self._shape_at(name, here, shapes)

    def shapes(self, names, *, size):
        """Tells the shapes of several letters at a size."""
        if not is_list(names, 0, MOST_THINGS):
            raise NoSuch(names)
        for name in names:
            self._font.letter(name)
        need_size(size)
        return [self.letter(name, size=size) for name in names]

    def kept(self):
        """Tells the kept sizes, the one asked longest ago first."""
        return list(self._by_size)

    def forget(self, *, size=None):
        """Lets a kept size go, or all; tells how many went."""
        if size is None:
            many = len(self._by_size)
            self._by_size = {}
            return many
        if not is_size(size) or size not in self._by_size:
            raise NoSize(size)
        del self._by_size[size]
        return 1

    def log(self):
        """Tells the rows (word, name, size) of what was asked."""
        return list(self._log)

    def cleared(self):
        """Clears the log; tells how many rows it had."""
        many = len(self._log)
        self._log = []
        return many

    def at_work(self):
        """Tells how many letters are at work."""
        return self._begun
