"""Fonts as texts."""

from hintedpoints.errors import NoRow, NoText
from hintedpoints.fonts import Font, Letter, Made
from hintedpoints.numbers import is_int, is_name, number_of, number_text
from hintedpoints.outlines import Outline
from hintedpoints.programs import Program
from hintedpoints.reading import Reading, rows_of
from hintedpoints.sizes import need_font

# The row that stands behind a program's own ones.
BEHIND = "."


def _rows_of_program(row, program):
    """Tells the rows of a program behind a row of its own, none where there is none."""
    if program is None:
        return []
    return [row, *rows_of(program.words()), BEHIND]


def _rows_of_letter(name, letter):
    """Tells the rows of a letter."""
    if isinstance(letter, Made):
        rows = [f"made {name}"]
        rows.extend([f"part {part} {east} {north}" for part, east, north in letter.parts()])
    else:
        rows = [f"letter {name}"]
        rows.extend([f"round {text}" for text in str(letter.outline()).split(" | ")])
    return rows + _rows_of_program("program", letter.program())


def show_font(font):
    """Tells the text that writes a font."""
    need_font(font)
    rows = [f"font {font.em()}"]
    if len(font.worths()) > 0:
        rows.append(" ".join(["worths"] + [number_text(worth) for worth in font.worths()]))
    definitions = font.definitions()
    for name in definitions:
        rows.extend(_rows_of_program(f"define {name}", definitions[name]))
    rows.extend(_rows_of_program("first", font.first()))
    for name in font.names():
        rows.extend(_rows_of_letter(name, font.letter(name)))
    return "\n".join(rows)


def _nothing_in(things):
    """Tells the things of a row without things, None where there are some."""
    return things if len(things) == 0 else None


def _name_in(things):
    """Tells the name that things are, None where they aren't one name."""
    return things[0] if len(things) == 1 and is_name(things[0]) else None


def _wholes_in(things):
    """Tells the whole numbers that things write, one or more, None where they write none."""
    found = [number_of(thing) for thing in things]
    return found if len(found) > 0 and all([is_int(number) for number in found]) else None


def _whole_in(things):
    """Tells the whole number that things write, None where they write none."""
    numbers = _wholes_in(things)
    return numbers[0] if len(things) == 1 and numbers is not None else None


def _point_in(things):
    """Tells the point of an outline that things write, None where they write none."""
    numbers = _wholes_in(things[:2])
    if numbers is None or len(numbers) < 2 or things[2:] not in ([], ["off"]):
        return None
    return (numbers[0], numbers[1], len(things) == 2)


def _points_in(things):
    """Tells the points that the things of a row write, None where they write none."""
    points = [_point_in(text.split(" ")) for text in " ".join(things).split(", ")]
    return None if None in points else points


def _part_in(things):
    """Tells the part that things write, None where they write none."""
    numbers = _wholes_in(things[1:])
    if numbers is None or len(numbers) != 2 or not is_name(things[0]):
        return None
    return (things[0], numbers[0], numbers[1])


class FontRows:
    """The rows of a font's text, taken one behind the other."""

    def __init__(self, text):
        self._rows = text.split("\n")
        self._at = 0

    def is_behind(self):
        """Tells whether all rows were taken."""
        return self._at == len(self._rows)

    def is_at(self, word):
        """Tells whether a row is due that begins with a word."""
        return not self.is_behind() and self._rows[self._at].split(" ")[0] == word

    def row_taken(self, word, things_in):
        """Takes a row that begins with a word; tells what things_in tells of the things behind the word."""
        found = things_in(self._rows[self._at].split(" ")[1:]) if self.is_at(word) else None
        if found is None:
            raise NoRow(self._at)
        self._at += 1
        return found

    def words_taken(self):
        """Takes the rows of a program, and the one behind them; tells the program's words."""
        reading = Reading()
        while not self.is_behind() and self._rows[self._at] != BEHIND:
            if not reading.takes(self._rows[self._at]):
                raise NoRow(self._at)
            self._at += 1
        if self.is_behind() or reading.is_open():
            raise NoRow(self._at)
        self._at += 1
        return reading.words()

    def words_where(self, word):
        """Takes a row of one word and a program behind it, where they are due; tells the words, else None."""
        if not self.is_at(word):
            return None
        self.row_taken(word, _nothing_in)
        return self.words_taken()

    def definitions_taken(self):
        """Takes all definitions that are due; tells their names and words."""
        found = []
        while self.is_at("define"):
            name = self.row_taken("define", _name_in)
            found.append((name, self.words_taken()))
        return found

    def letter_taken(self):
        """Takes a letter; tells its first word, its name, its rounds or parts, and its words or None."""
        word = "made" if self.is_at("made") else "letter"
        inner, things_in = ("part", _part_in) if word == "made" else ("round", _points_in)
        name = self.row_taken(word, _name_in)
        found = []
        while self.is_at(inner):
            found.append(self.row_taken(inner, things_in))
        return (word, name, found, self.words_where("program"))


def _program_of(words, names):
    """Tells the program of words, None where there are none."""
    return None if words is None else Program(words, names=names)


def _letter_of(word, rows, words, names):
    """Tells the letter that was read."""
    if word == "made":
        program = _program_of(words, names)
        return Made(rows, program=program)
    outline = Outline(rows)
    return Letter(outline, program=_program_of(words, names))


def read_font(text):
    """Tells the font that a text writes."""
    if not isinstance(text, str):
        raise NoText(text)
    rows = FontRows(text)
    em = rows.row_taken("font", _whole_in)
    worths = rows.row_taken("worths", _wholes_in) if rows.is_at("worths") else []
    read = rows.definitions_taken()
    first_words = rows.words_where("first")
    letters_read = []
    while not rows.is_behind():
        letters_read.append(rows.letter_taken())
    names = []
    definitions = []
    for name, words in read:
        definitions.append((name, Program(words, names=names)))
        names.append(name)
    first = _program_of(first_words, names)
    letters = [(name, _letter_of(word, inner, words, names)) for word, name, inner, words in letters_read]
    return Font(em, worths=worths, definitions=definitions, first=first, letters=letters)
