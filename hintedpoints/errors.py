"""Refusals: each an error of a class of its own, straight under one of four."""


class FontError(ValueError):
    """Something is of no such kind as is asked; made of one text."""


class Missing(LookupError):
    """Something isn't there; made of one text."""


class Unknown(KeyError):
    """A name that nothing has; made of one text."""


class NoNumber(FontError):
    """What is no number, or none such as is asked."""

    def __init__(self, found):
        self.found = found


class NoName(FontError):
    """What is no name, or one that stands ahead already."""

    def __init__(self, found):
        self.found = found


class NoText(FontError):
    """What is no text, or none such as is asked."""

    def __init__(self, found):
        self.found = found


class NoPlace(FontError):
    """What is no place, or points whose lines have no one crossing."""

    def __init__(self, found):
        self.found = found


class NoWay(FontError):
    """What is no way, or two ways that are square to each other."""

    def __init__(self, found):
        self.found = found


class NoRound(FontError):
    """What is no kind of rounding, no period or no phase."""

    def __init__(self, found):
        self.found = found


class NoOutline(FontError):
    """What is no outline, no round of one, or no list of such."""

    def __init__(self, found):
        self.found = found


class NoPoint(FontError):
    """What is no point."""

    def __init__(self, found):
        self.found = found


class NoProgram(FontError):
    """What is no program."""

    def __init__(self, found):
        self.found = found


class NoWord(FontError):
    """What is no word, or no shortening that can be done."""

    def __init__(self, found):
        self.found = found


class NoFont(FontError):
    """What is no font, or no row of one."""

    def __init__(self, found):
        self.found = found


class NoWorths(FontError):
    """What is no list of worths."""

    def __init__(self, found):
        self.found = found


class NoLetter(FontError):
    """What is no letter."""

    def __init__(self, found):
        self.found = found


class NoParts(FontError):
    """What are no parts, of a letter or of polygons."""

    def __init__(self, found):
        self.found = found


class NoSize(FontError):
    """What is no size, or none that is kept."""

    def __init__(self, found):
        self.found = found


class NoZone(FontError):
    """What is no zone, or nothing that one is made of."""

    def __init__(self, found):
        self.found = found


class NoCells(FontError):
    """What is no rule for cells, or no list of spans."""

    def __init__(self, found):
        self.found = found


class NoChoices(FontError):
    """What are no truths by which a program is gone."""

    def __init__(self, found):
        self.found = found


class NoLine(FontError):
    """What is no line."""

    def __init__(self, found):
        self.found = found


class NoLimit(FontError):
    """What is no limit such as is asked."""

    def __init__(self, found):
        self.found = found


class Crossed(FontError):
    """Two things that cross each other."""

    def __init__(self, one, other):
        self.one = one
        self.other = other


class TooMany(FontError):
    """There are more than there may be; many tells how many."""

    def __init__(self, many):
        self.many = many


class Deep(FontError):
    """The word of number at has a block that stands within too many others."""

    def __init__(self, at):
        self.at = at


class NoRow(FontError):
    """The row of number at can't stand where it does."""

    def __init__(self, at):
        self.at = at


class Fault(FontError):
    """A run failed behind as many words as done tells; why tells by what."""

    def __init__(self, done, why):
        self.done = done
        self.why = why


class NoEntry(Missing):
    """What is no entry."""

    def __init__(self, found):
        self.found = found


class Unready(Missing):
    """What is asked isn't there now."""

    def __init__(self):
        pass


class NoDefinition(Unknown):
    """A name that no definition has."""

    def __init__(self, found):
        self.found = found


class NoSuch(Unknown):
    """A name that no letter has."""

    def __init__(self, found):
        self.found = found


class NoBase(ZeroDivisionError):
    """A base that is nought."""

    def __init__(self, found):
        self.found = found
