"""Letters, of an outline or made of parts, and fonts."""

from hintedpoints.errors import NoFont, NoLetter, NoName, NoNumber, NoOutline, NoParts, NoSize
from hintedpoints.errors import NoSuch, NoWorths, TooMany, Unready
from hintedpoints.numbers import is_list, is_name, is_whole, need_number, over, times
from hintedpoints.outlines import MOST_ROUNDS, Outline, is_near
from hintedpoints.programs import need_known, need_program
from hintedpoints.rounds import CELL
from hintedpoints.words import is_size

LEAST_EM = 16
MOST_EM = 4096
MOST_PARTS = 4
MOST_WORTHS = 12
MOST_DEFINITIONS = 8
MOST_LETTERS = 24


def _need_em(thing):
    """Refuses what is no em."""
    if not is_whole(thing, LEAST_EM, MOST_EM):
        raise NoNumber(thing)


def need_size(thing):
    """Refuses what is no size."""
    if not is_size(thing):
        raise NoSize(thing)


def scaled(number, size, em):
    """Tells what a number of a font's own units is at a size."""
    need_number(number)
    need_size(size)
    _need_em(em)
    return over(times(number, size * CELL), em)


def _need_program_or_none(thing):
    """Refuses what is neither a program nor None."""
    if thing is not None:
        need_program(thing)


class Letter:
    """An outline, and perhaps a program; it never changes."""

    def __init__(self, outline, *, program=None):
        if not isinstance(outline, Outline):
            raise NoOutline(outline)
        _need_program_or_none(program)
        self._outline = outline
        self._program = program

    def __eq__(self, other):
        if not isinstance(other, Letter) or isinstance(other, Made):
            return False
        return self._outline == other._outline and self._program == other._program

    def outline(self):
        """Tells its outline."""
        return self._outline

    def program(self):
        """Tells its program, or None."""
        return self._program

    def parts(self):
        """Tells its parts: none."""
        return []


def _is_part(thing):
    """Tells whether a thing is a tuple of a name, an east and a north."""
    if not isinstance(thing, tuple) or len(thing) != 3:
        return False
    name, east, north = thing
    return is_name(name) and is_near(east) and is_near(north)


class Made(Letter):
    """A letter made of other ones, and perhaps a program; it never changes."""

    def __init__(self, parts, *, program=None):
        if not is_list(parts, 1, MOST_PARTS):
            raise NoParts(parts)
        for part in parts:
            if not _is_part(part):
                raise NoParts(part)
        _need_program_or_none(program)
        self._parts = list(parts)
        self._program = program

    def __eq__(self, other):
        return isinstance(other, Made) and self._parts == other._parts and self._program == other._program

    def outline(self):
        """Refuses: it has no outline of its own."""
        raise Unready()

    def program(self):
        """Tells its program, or None."""
        return self._program

    def parts(self):
        """Tells its parts, tuples (name, east, north)."""
        return list(self._parts)


def _need_worths(worths):
    """Refuses what is no list of a font's worths."""
    if not is_list(worths, 0, MOST_WORTHS):
        raise NoWorths(worths)
    for worth in worths:
        if not is_near(worth):
            raise NoNumber(worth)


def _need_row(row, ahead):
    """Refuses what is no tuple of two, or has no name or one that stands ahead."""
    if not isinstance(row, tuple) or len(row) != 2:
        raise NoFont(row)
    if not is_name(row[0]) or row[0] in ahead:
        raise NoName(row[0])


def _definitions_of(rows):
    """Tells the programs of definitions by their names."""
    if not is_list(rows, 0, MOST_DEFINITIONS):
        raise NoFont(rows)
    found = {}
    for row in rows:
        _need_row(row, found)
        name, program = row
        need_program(program)
        need_known(program.calls(), found)
        found[name] = program
    return found


def _need_defined(program, definitions):
    """Refuses what is neither a program nor None, or calls what isn't defined."""
    _need_program_or_none(program)
    if program is not None:
        need_known(program.calls(), definitions)


def _how_many_rounds(letter, many):
    """Tells how many rounds a letter has, by how many each of those has that stand ahead."""
    if isinstance(letter, Made):
        return sum([many[part[0]] for part in letter.parts()])
    return len(letter.outline().rounds())


def _letters_of(rows, definitions):
    """Tells the letters by their names."""
    if not is_list(rows, 0, MOST_LETTERS):
        raise NoFont(rows)
    found = {}
    many = {}
    for row in rows:
        _need_row(row, found)
        name, letter = row
        if not isinstance(letter, Letter):
            raise NoLetter(letter)
        _need_defined(letter.program(), definitions)
        for part in letter.parts():
            if part[0] not in found:
                raise NoSuch(part[0])
        many[name] = _how_many_rounds(letter, many)
        if many[name] > MOST_ROUNDS:
            raise TooMany(many[name])
        found[name] = letter
    return found


class Font:
    """An em, worths, definitions, a first program and letters; it never changes."""

    def __init__(self, em, *, worths=(), definitions=(), first=None, letters=()):
        _need_em(em)
        _need_worths(worths)
        programs = _definitions_of(definitions)
        _need_defined(first, programs)
        self._em = em
        self._worths = list(worths)
        self._definitions = programs
        self._first = first
        self._letters = _letters_of(letters, programs)

    def __eq__(self, other):
        if not isinstance(other, Font):
            return False
        if self._em != other._em or self._worths != other._worths or self._first != other._first:
            return False
        if list(self._definitions.items()) != list(other._definitions.items()):
            return False
        return list(self._letters.items()) == list(other._letters.items())

    def __len__(self):
        return len(self._letters)

    def _need_letter(self, name):
        """Refuses what is no name of a letter."""
        if not is_name(name) or name not in self._letters:
            raise NoSuch(name)

    def em(self):
        """Tells its em."""
        return self._em

    def worths(self):
        """Tells its worths."""
        return list(self._worths)

    def definitions(self):
        """Tells its definitions, a dict from their names to their programs."""
        return dict(self._definitions)

    def first(self):
        """Tells its first program, or None."""
        return self._first

    def names(self):
        """Tells the names of its letters."""
        return list(self._letters)

    def letter(self, name):
        """Tells the letter of a name."""
        self._need_letter(name)
        return self._letters[name]

    def leaves(self, name):
        """Tells the letters with outlines of which a letter is made, tuples (name, east, north)."""
        letter = self.letter(name)
        if not isinstance(letter, Made):
            return [(name, 0, 0)]
        found = []
        for part, east, north in letter.parts():
            found.extend([(leaf, x + east, y + north) for leaf, x, y in self.leaves(part)])
        return found

    def hangs_on(self, name):
        """Tells the names of all letters that are among a letter's parts, or their parts, and so on."""
        self._need_letter(name)
        found = {name: True}
        # Parts stand ahead of what is made of them, so one look from behind finds all.
        for each in self.names()[::-1]:
            if each in found:
                for part in self._letters[each].parts():
                    found[part[0]] = True
        return [each for each in self._letters if each in found and each != name]

    def replaced(self, name, letter):
        """Tells the font that has another letter of this name."""
        self._need_letter(name)
        letters = [(each, letter if each == name else self._letters[each]) for each in self._letters]
        rows = list(self._definitions.items())
        return Font(self._em, worths=self._worths, definitions=rows, first=self._first, letters=letters)
