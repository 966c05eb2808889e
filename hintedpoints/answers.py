"""What a desk does with its font, and what it answers of it."""

from hintedpoints.cells import cells, picture
from hintedpoints.fonts import Letter, Made
from hintedpoints.fonttext import show_font
from hintedpoints.lines import in_one_line
from hintedpoints.look import Look
from hintedpoints.numbers import number_text
from hintedpoints.outlines import polygons
from hintedpoints.programs import read_program
from hintedpoints.sessions import Session
from hintedpoints.shorten import shortened
from hintedpoints.sizes import Size
from hintedpoints.straight import straight
from hintedpoints.turns import first_crossing, turns
from hintedpoints.words import row_of

TOUCHES = {(False, False): "no", (True, False): "east", (False, True): "north", (True, True): "both"}


def _with_program(font, name, program):
    """Tells the font in which a letter has another program, or none."""
    letter = font.letter(name)
    if isinstance(letter, Made):
        return font.replaced(name, Made(letter.parts(), program=program))
    return font.replaced(name, Letter(letter.outline(), program=program))


def _program(font, name, rows):
    font.letter(name)
    return _with_program(font, name, read_program(rows, names=list(font.definitions())))


def _bare(font, name):
    return _with_program(font, name, None)


def _short(font, name):
    program, _ = shortened(font.letter(name).program())
    return _with_program(font, name, program)


# What each line that changes a font makes of it, told by the font and the line's things.
CHANGES = {"program": _program, "bare": _bare, "short": _short}


class Bench:
    """A font with its session, and the stack's most and the budget of both."""

    def __init__(self, font, *, keep, stack, budget):
        self.font = font
        self.session = Session(font, keep=keep, stack=stack, budget=budget)
        self.most = stack
        self.budget = budget

    def shape(self, name, size):
        """Tells the shape of a letter, as the session tells it."""
        return self.session.letter(name, size=size)

    def polygons_of(self, name, size):
        """Tells the polygons of a letter's shape."""
        shape = self.shape(name, size)
        return polygons(shape.places(), shape.ends(), shape.truths())

    def size_of(self, size):
        """Tells the Size of a number."""
        return Size(self.font, size, stack=self.most, budget=self.budget)


def _or_none(text):
    """Tells a text, or the word that stands for one without signs."""
    return "none" if text == "" else text


def _rows_text(rows):
    """Tells the text of rows of numbers and texts."""
    return _or_none("; ".join([row_of(row) for row in rows]))


def _row_text(row):
    """Tells the text of numbers and texts."""
    return _or_none(row_of(row))


def _show(bench):
    return in_one_line(show_font(bench.font))


def _names(bench):
    return _row_text(bench.font.names())


def _letter(bench, name, size):
    shape = bench.shape(name, size)
    rounds = []
    begin = 0
    for end in shape.ends():
        rounds.append(", ".join([row_of(place) for place in shape.places()[begin:end + 1]]))
        begin = end + 1
    return " | ".join(rounds)


def _touched(bench, name, size):
    return _row_text([TOUCHES[truths] for truths in bench.shape(name, size).touched()])


def _cells(bench, name, size):
    return _rows_text(cells(bench.polygons_of(name, size)))


def _picture(bench, name, size):
    return _or_none(in_one_line(picture(cells(bench.polygons_of(name, size)))))


def _store(bench, size):
    return _row_text(bench.size_of(size).store())


def _worths(bench, size):
    return _row_text(bench.size_of(size).worths())


def _fault(bench, size):
    fault = bench.size_of(size).fault()
    return _row_text(() if fault is None else fault)


def _turns(bench, name, size):
    return _row_text(turns(bench.polygons_of(name, size)))


def _crossing(bench, name, size):
    edges = first_crossing(bench.polygons_of(name, size))
    return _row_text(() if edges is None else edges[0] + edges[1])


def _look(bench, name):
    program = bench.font.letter(name).program()
    if program is None:
        return "none"
    look = Look(program, definitions=bench.font.definitions(), stack=bench.most, budget=bench.budget)
    ends = _rows_text([(height, least, most) for height, least, _, most, _ in look.ends()])
    faults = _rows_text([(word, least) for word, least, _ in look.faults()])
    highest, _ = look.top()
    return f"{ends} / {faults} / {number_text(highest)}"


def _straight(bench, name, size):
    return _or_none(in_one_line(straight(bench.font, name, size=size).text()))


def _kept(bench):
    return _row_text(bench.session.kept())


def _log(bench):
    return _rows_text(bench.session.log())


# What is answered to each line that asks, told by the bench and the line's things.
ANSWERS = {
    "show": _show, "names": _names, "letter": _letter, "touched": _touched, "cells": _cells, "picture": _picture,
    "store": _store, "worths": _worths, "fault": _fault, "turns": _turns, "crossing": _crossing, "look": _look,
    "straight": _straight, "kept": _kept, "log": _log,
}
