"""Words of programs: which there are, and how many things each takes off a stack and puts on it."""

from hintedpoints.errors import NoWord
from hintedpoints.numbers import MOST_THINGS, is_list, is_name, is_number, is_short, is_whole, number_of, number_text
from hintedpoints.rounds import is_kind
from hintedpoints.ways import has_way

MOST_WITHIN = 5
MOST_PICKED = 8
MOST_REPEATS = 20
MOST_SIZE = 200
LINES = ("east", "north")

# How many things each plain word takes and puts, but `pick`, of which its own number tells.
EFFECTS = {
    "push": (0, 1), "height": (0, 1), "size": (0, 1), "copy": (1, 2), "drop": (1, 0), "swap": (2, 2),
    "plus": (2, 1), "minus": (2, 1), "times": (2, 1), "over": (2, 1), "lesser": (2, 1), "greater": (2, 1),
    "same": (2, 1), "both": (2, 1), "either": (2, 1),
    "negate": (1, 1), "bare": (1, 1), "floor": (1, 1), "ceil": (1, 1), "not": (1, 1), "load": (1, 1),
    "worth": (1, 1), "place": (1, 1), "was": (1, 1),
    "keep": (2, 0), "setworth": (2, 0), "period": (2, 0), "hold": (2, 0), "put": (2, 0), "by": (2, 0),
    "shift": (2, 0),
    "least": (1, 0), "cutin": (1, 0), "lean": (1, 0), "settle": (1, 0), "far": (1, 0), "line": (1, 0),
    "amid": (1, 0), "across": (5, 0),
    "way": (0, 0), "measure": (0, 0), "move": (0, 0), "round": (0, 0), "rest": (0, 0),
}
BLOCKS = {"if": 2, "repeat": 1, "when": 1}
# Words whose things are texts and no numbers.
WITH_TEXTS = ("round", "rest", "call")


def is_size(thing):
    """Tells whether a thing is a whole number from 1 to 200."""
    return is_whole(thing, 1, MOST_SIZE)


def is_line(thing):
    """Tells whether a thing is the text `east` or `north`."""
    return isinstance(thing, str) and thing in LINES


def _of_push(things):
    return len(things) == 1 and is_number(things[0]) and is_short(things[0])


def _of_pick(things):
    return len(things) == 1 and is_whole(things[0], 1, MOST_PICKED)


def _of_way(things):
    return len(things) == 2 and has_way(things[0], things[1])


def _of_round(things):
    return len(things) == 1 and is_kind(things[0])


def _of_rest(things):
    return len(things) == 1 and is_line(things[0])


def _of_call(things):
    return len(things) == 1 and is_name(things[0])


def _of_repeat(things):
    return len(things) == 1 and is_whole(things[0], 0, MOST_REPEATS)


def _of_when(things):
    return len(things) == 2 and is_size(things[0]) and is_size(things[1])


# What tells of the things of a word, its blocks left out, whether it may have them; other words have none.
THINGS = {
    "push": _of_push, "pick": _of_pick, "way": _of_way, "measure": _of_way, "move": _of_way, "round": _of_round,
    "rest": _of_rest, "call": _of_call, "repeat": _of_repeat, "when": _of_when,
}


def head_of(word):
    """Tells a word without its blocks, a tuple."""
    return word[:len(word) - BLOCKS.get(word[0], 0)]


def blocks_of(word):
    """Tells the blocks of a word, a tuple."""
    return word[len(word) - BLOCKS.get(word[0], 0):]


def is_head(head):
    """Tells whether a tuple that begins with a text is a word without its blocks."""
    name = head[0]
    if name in THINGS:
        allows = THINGS[name]
        return allows(head[1:])
    return len(head) == 1 and (name in EFFECTS or name in BLOCKS)


def has_shape(thing):
    """Tells whether a thing is a word but for what its blocks hold."""
    if not isinstance(thing, tuple) or len(thing) == 0 or not isinstance(thing[0], str):
        return False
    if len(thing) <= BLOCKS.get(thing[0], 0):
        return False
    for block in blocks_of(thing):
        if not is_list(block, 0, MOST_THINGS):
            return False
    return is_head(head_of(thing))


def _is_word_with(thing, within):
    """Tells whether a thing is a word with at most so many blocks within one another."""
    if not has_shape(thing):
        return False
    blocks = blocks_of(thing)
    if len(blocks) > 0 and within == 0:
        return False
    for block in blocks:
        for word in block:
            if not _is_word_with(word, within - 1):
                return False
    return True


def is_word(thing):
    """Tells whether a thing is a word."""
    return _is_word_with(thing, MOST_WITHIN)


def is_plain(name):
    """Tells whether a word that is called by a name is a plain one."""
    return name == "pick" or name in EFFECTS


def effect(word):
    """Tells how many things a plain word takes off a stack, and how many it puts on it."""
    if not is_word(word) or not is_plain(word[0]):
        raise NoWord(word)
    if word[0] == "pick":
        return (word[1], word[1] + 1)
    return EFFECTS[word[0]]


def _thing_text(thing):
    """Tells how a thing of a word is written."""
    if isinstance(thing, str):
        return thing
    return number_text(thing)


def row_of(head):
    """Tells the row that writes a word without its blocks."""
    return " ".join([_thing_text(thing) for thing in head])


def head_of_row(row):
    """Tells the word without its blocks that a row writes, None where it writes none."""
    name, *things = row.split(" ")
    if name not in WITH_TEXTS:
        things = [number_of(thing) for thing in things]
    head = (name, *things)
    if is_head(head):
        return head
    return None
