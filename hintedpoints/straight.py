"""Letters' programs made straight: the plain words that they do at a size."""

from hintedpoints.programs import Program
from hintedpoints.sizes import Size, need_font


def straight(font, name, *, size):
    """Tells the program of the words that a letter's program does at a size."""
    need_font(font)
    parts = font.letter(name).parts()
    here = Size(font, size)
    machine, _ = here.work_on(name, {part: here.letter(part) for part, _, _ in parts})
    return Program(machine.trail())
