"""Exact numbers: whole numbers, and parts, which are tuples (top, base) in lowest terms."""

from math import gcd

from hintedpoints.errors import NoBase, NoNumber

FIGURES = "0123456789"
MOST_FIGURES = 60
# The least whole number that has more figures than that.
LEAST_LONG = 10 ** 60
MOST_THINGS = 400
LONGEST_NAME = 8


def is_int(thing):
    """Tells whether a thing is a whole number of any size."""
    return isinstance(thing, int) and not isinstance(thing, bool)


def is_list(thing, low, high):
    """Tells whether a thing is a list or a tuple of from low to high things."""
    return isinstance(thing, (list, tuple)) and low <= len(thing) <= high


def is_whole(thing, low, high):
    """Tells whether a thing is a whole number from low to high, both counted."""
    return is_int(thing) and low <= thing <= high


def is_name(thing):
    """Tells whether a thing is a text of one to eight small letters."""
    if not isinstance(thing, str) or not 1 <= len(thing) <= LONGEST_NAME:
        return False
    return all(["a" <= sign <= "z" for sign in thing])


def is_number(thing):
    """Tells whether a thing is a whole number or a part."""
    if not isinstance(thing, tuple):
        return is_int(thing)
    if len(thing) != 2:
        return False
    top, base = thing
    return is_int(top) and is_int(base) and base >= 2 and gcd(top, base) == 1


def need_number(thing):
    """Refuses what is no number."""
    if not is_number(thing):
        raise NoNumber(thing)


def need_numbers(thing):
    """Refuses what is no list of at most 400 numbers."""
    if not is_list(thing, 0, MOST_THINGS):
        raise NoNumber(thing)
    for number in thing:
        need_number(number)


def pair_of(number):
    """Tells the top and the base of a number, a base of 1 for a whole one."""
    if isinstance(number, tuple):
        return number
    return (number, 1)


def is_short(number):
    """Tells whether the top and the base of a number have at most sixty figures."""
    top, base = pair_of(number)
    return abs(top) < LEAST_LONG and base < LEAST_LONG


def lowest(top, base):
    """Tells the number that is top over base, whole numbers, the base not nought."""
    shared = gcd(top, base)
    if base < 0:
        shared = -shared
    if base == shared:
        return top // shared
    return (top // shared, base // shared)


def fraction(top, base):
    """Tells the number that is top over base, any things."""
    if not is_int(top):
        raise NoNumber(top)
    if not is_int(base):
        raise NoNumber(base)
    if base == 0:
        raise NoBase(base)
    return lowest(top, base)


def _added(one, other):
    """Tells the sum of what are numbers."""
    top, base = pair_of(one)
    other_top, other_base = pair_of(other)
    # What the new top and base can have in common is a factor of what both bases
    # share, so no two large numbers are ever compared: long sums stay quick.
    shared = gcd(base, other_base)
    top = top * (other_base // shared) + other_top * (base // shared)
    common = gcd(top, shared)
    top = top // common
    base = base // shared * (other_base // common)
    if base == 1:
        return top
    return (top, base)


def _negated(number):
    """Tells what is a number with the other sign."""
    top, base = pair_of(number)
    if base == 1:
        return -top
    return (-top, base)


def _is_less(one, other):
    """Tells whether what is a number is less than what is another one."""
    top, base = pair_of(one)
    other_top, other_base = pair_of(other)
    return top * other_base < other_top * base


def plus(one, other):
    """Tells the sum of two numbers."""
    need_number(one)
    need_number(other)
    return _added(one, other)


def minus(one, other):
    """Tells what is left of one number without the other."""
    need_number(one)
    need_number(other)
    return _added(one, _negated(other))


def times(one, other):
    """Tells the product of two numbers."""
    need_number(one)
    need_number(other)
    top, base = pair_of(one)
    other_top, other_base = pair_of(other)
    return lowest(top * other_top, base * other_base)


def over(one, other):
    """Tells one number over the other."""
    need_number(one)
    need_number(other)
    if other == 0:
        raise NoBase(other)
    top, base = pair_of(one)
    other_top, other_base = pair_of(other)
    return lowest(top * other_base, base * other_top)


def sign_of(number):
    """Tells -1 of a number below nought, 0 of nought, 1 of one above it."""
    need_number(number)
    top, _ = pair_of(number)
    if top < 0:
        return -1
    if top > 0:
        return 1
    return 0


def is_from_nought(thing):
    """Tells whether a thing is a number from 0 on."""
    return is_number(thing) and sign_of(thing) >= 0


def bare_of(number):
    """Tells a number without its sign."""
    if sign_of(number) < 0:
        return _negated(number)
    return number


def less(one, other):
    """Tells whether one number is less than the other."""
    need_number(one)
    need_number(other)
    return _is_less(one, other)


def floor_of(number, *, step=1):
    """Tells the greatest whole multiple of the step that isn't above the number."""
    need_number(number)
    if sign_of(step) < 1:
        raise NoNumber(step)
    top, base = pair_of(number)
    step_top, step_base = pair_of(step)
    many = top * step_base // (base * step_top)
    return lowest(many * step_top, step_base)


def number_text(number):
    """Tells the text that writes a number."""
    need_number(number)
    top, base = pair_of(number)
    if base == 1:
        return str(top)
    return f"{top}/{base}"


def _is_figures(text):
    """Tells whether a text is one to sixty figures, the first no 0 but in 0 itself."""
    if not 1 <= len(text) <= MOST_FIGURES:
        return False
    if text[0] == "0" and text != "0":
        return False
    return all([sign in FIGURES for sign in text])


def number_of(thing):
    """Tells the number that a thing writes, None where it writes none."""
    if not isinstance(thing, str):
        return None
    top, stroke, base = thing.partition("/")
    if not _is_figures(top.removeprefix("-")):
        return None
    if stroke == "":
        return int(top)
    if not _is_figures(base) or base == "0":
        return None
    return lowest(int(top), int(base))


def _how_many_not_above(ordered, number):
    """Tells how many of the rising numbers that are ordered aren't above a number."""
    low = 0
    high = len(ordered)
    while low < high:
        middle = (low + high) // 2
        if _is_less(number, ordered[middle]):
            high = middle
        else:
            low = middle + 1
    return low


def rising(numbers, *, down=False):
    """Tells the numbers of a list rising, or falling where down is True."""
    need_numbers(numbers)
    ordered = []
    for number in numbers:
        ordered.insert(_how_many_not_above(ordered, number), number)
    if down:
        return ordered[::-1]
    return ordered


def total(numbers, *, start=0):
    """Tells the sum of the start and the numbers of a list."""
    need_numbers(numbers)
    need_number(start)
    found = start
    for number in numbers:
        found = _added(found, number)
    return found
