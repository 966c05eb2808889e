"""Programs, and their texts."""

from hintedpoints.errors import Deep, NoDefinition, NoName, NoProgram, NoRow, NoText, NoWord, TooMany
from hintedpoints.numbers import MOST_THINGS, is_list, is_name
from hintedpoints.reading import Reading, rows_of
from hintedpoints.words import BLOCKS, MOST_WITHIN, blocks_of, has_shape, head_of

MOST_WORDS = 400


def _heads_of(words):
    """Tells of all words, in the order of their numbers, the head and within how many blocks it stands."""
    if not is_list(words, 0, MOST_THINGS):
        raise NoProgram(words)
    found = []
    waiting = [(word, 0) for word in words[::-1]]
    while len(waiting) > 0:
        word, within = waiting.pop()
        if not has_shape(word):
            raise NoWord(word)
        blocks = blocks_of(word)
        if len(blocks) > 0 and within == MOST_WITHIN:
            raise Deep(len(found))
        found.append((head_of(word), within))
        for block in blocks[::-1]:
            waiting.extend([(each, within + 1) for each in block[::-1]])
    return found


def _need_names(names):
    """Refuses what is no list of names."""
    if not is_list(names, 0, MOST_THINGS):
        raise NoName(names)
    for name in names:
        if not is_name(name):
            raise NoName(name)


def need_known(calls, names):
    """Refuses the first of the names called that isn't among the names."""
    for name in calls:
        if name not in names:
            raise NoDefinition(name)


def _copied(words):
    """Tells what are words as lists of their own, their blocks too."""
    return [head_of(word) + tuple([_copied(block) for block in blocks_of(word)]) for word in words]


def _called(heads):
    """Tells the names that words call, each once."""
    found = []
    for head, _ in heads:
        if head[0] == "call" and head[1] not in found:
            found.append(head[1])
    return found


class Program:
    """Words, a block; it never changes."""

    def __init__(self, words, *, names=()):
        heads = _heads_of(words)
        if len(heads) > MOST_WORDS:
            raise TooMany(len(heads))
        _need_names(names)
        calls = _called(heads)
        need_known(calls, names)
        self._words = _copied(words)
        self._heads = heads
        self._calls = calls

    def __eq__(self, other):
        return isinstance(other, Program) and self._words == other._words

    def __len__(self):
        return len(self._heads)

    def __str__(self):
        return "\n".join(rows_of(self._words))

    def __repr__(self):
        return f"Program({self._words!r})"

    def words(self):
        """Tells its words, blocks as lists in them."""
        return _copied(self._words)

    def calls(self):
        """Tells the names that it calls, each once, in the order in which they come first."""
        return list(self._calls)

    def deep(self):
        """Tells how many blocks, at most, stand within one another."""
        return max([within + 1 for head, within in self._heads if head[0] in BLOCKS], default=0)

    def text(self):
        """Tells the text that writes it."""
        return "\n".join(rows_of(self._words))


def need_program(thing):
    """Refuses what is no program."""
    if not isinstance(thing, Program):
        raise NoProgram(thing)


def read_program(text, *, names=()):
    """Tells the program that a text writes, by names that its calls may have."""
    if not isinstance(text, str):
        raise NoText(text)
    reading = Reading()
    rows = text.split("\n") if text != "" else []
    for at, row in enumerate(rows):
        if not reading.takes(row):
            raise NoRow(at)
    if reading.is_open():
        raise NoRow(len(rows))
    return Program(reading.words(), names=names)
