"""Programs made shorter, by rules that put other words in the place of some."""

from hintedpoints.errors import NoWord
from hintedpoints.numbers import is_int, is_short
from hintedpoints.programs import Program, need_program
from hintedpoints.reckoning import RECKONING
from hintedpoints.words import blocks_of, head_of

WASTED = ("push", "size", "height", "copy")
NONE_OF_TWO = ("swap", "negate")
ONE_OF_TWO = ("bare", "floor", "ceil")
FOLDED_ONE = ("negate", "bare", "floor", "ceil", "not")
FOLDED_TWO = ("plus", "minus", "times", "lesser", "greater", "same", "both", "either")
# By a number the words that change nothing with it.
CHANGING_NOTHING = {0: ("plus", "minus"), 1: ("times", "over")}
# By the word that makes the one ahead of it idle, those that may stand ahead.
AGAIN = {"round": ("round",), "way": ("way", "measure", "move"), "measure": ("measure",), "move": ("move",)}


def _names(words, many):
    """Tells the names of so many words, the first ones, None for those that aren't there."""
    found = [word[0] for word in words[:many]]
    return found + [None] * (many - len(found))


def _waste(words):
    one, two = _names(words, 2)
    return (2, []) if one in WASTED and two == "drop" else None


def _twice(words):
    one, two = _names(words, 2)
    if one == two and one in NONE_OF_TWO:
        return (2, [])
    if one == two and one in ONE_OF_TWO:
        return (2, [words[0]])
    return None


def _folded(words):
    one, two, three = _names(words, 3)
    if one == "push" and two == "push" and three in FOLDED_TWO:
        many = 3
    elif one == "push" and two in FOLDED_ONE:
        many = 2
    else:
        return None
    reckon = RECKONING[words[many - 1][0]]
    number = reckon([word[1] for word in words[:many - 1]])[0]
    return (many, [("push", number)]) if is_short(number) else None


def _nothing(words):
    one, two = _names(words, 2)
    return (2, []) if one == "push" and two in CHANGING_NOTHING.get(words[0][1], ()) else None


def _again(words):
    one, two = _names(words, 2)
    return (2, [words[1]]) if one in AGAIN.get(two, ()) else None


def _empty(words):
    word = words[0]
    blocks = blocks_of(word)
    if len(blocks) == 0:
        return None
    if (word[0] == "repeat" and word[1] == 0) or (word[0] == "when" and word[1] > word[2]):
        return (1, [])
    if any([len(block) > 0 for block in blocks]):
        return None
    return (1, [("drop",)] if word[0] == "if" else [])


def _once(words):
    word = words[0]
    return (1, word[2]) if word[0] == "repeat" and word[1] == 1 else None


def _known(words):
    one, two = _names(words, 2)
    if one == "push" and two == "if":
        return (2, words[1][2] if words[0][1] == 0 else words[1][1])
    return None


# Of words, the first of which a rule is for, each tells how many words go and which come in their place, else None.
RULES = {
    "waste": _waste, "twice": _twice, "folded": _folded, "nothing": _nothing, "again": _again, "empty": _empty,
    "once": _once, "known": _known,
}


def _done_by(rule, words):
    """Tells what a rule does to words, from the first one on, None where it can't be done."""
    act = RULES[rule]
    return act(words)


def _all_of(words, path):
    """Tells the tuples (rule, path) of all that can be done with a block's words, by the path of the block."""
    found = []
    for at, word in enumerate(words):
        here = (*path, at)
        found.extend([(rule, here) for rule in RULES if _done_by(rule, words[at:at + 3]) is not None])
        for number, block in enumerate(blocks_of(word)):
            found.extend(_all_of(block, (*here, number)))
    return found


def _changed(words, rule, path):
    """Tells the words in which a rule is done at a path."""
    at = path[0]
    if len(path) == 1:
        many, news = _done_by(rule, words[at:at + 3])
        return words[:at] + news + words[at + many:]
    blocks = list(blocks_of(words[at]))
    blocks[path[1]] = _changed(blocks[path[1]], rule, path[2:])
    return words[:at] + [(*head_of(words[at]), *blocks)] + words[at + 1:]


def shortenings(program):
    """Tells the tuples (rule, path) of all that can be done with a program."""
    need_program(program)
    return _all_of(program.words(), ())


def _is_doable(program, rule, path):
    """Tells whether a rule can be done with a program at a path."""
    # True and False would be found as 1 and 0.
    if not isinstance(path, tuple) or not all([is_int(number) for number in path]):
        return False
    return (rule, path) in shortenings(program)


def shortened_by(program, *, rule, path):
    """Tells the program in which a rule is done at a path."""
    need_program(program)
    if not _is_doable(program, rule, path):
        raise NoWord((rule, path))
    return Program(_changed(program.words(), rule, path), names=program.calls())


def shortened(program):
    """Tells the program made as short as it gets, and the tuples (rule, path) of what was done."""
    need_program(program)
    words = program.words()
    steps = []
    doable = _all_of(words, ())
    while len(doable) > 0:
        rule, path = doable[0]
        steps.append((rule, path))
        words = _changed(words, rule, path)
        doable = _all_of(words, ())
    return (Program(words, names=program.calls()), steps)
