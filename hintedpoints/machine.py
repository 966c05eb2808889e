"""The machine that does programs, with a stack, a store, worths and a zone of points."""

from hintedpoints.errors import NoLimit, NoNumber, NoProgram, NoWorths, NoZone
from hintedpoints.fonts import MOST_DEFINITIONS, MOST_WORTHS, need_size
from hintedpoints.numbers import is_list, is_name, is_number, is_whole
from hintedpoints.programs import Program, need_known, need_program
from hintedpoints.runs import Run
from hintedpoints.zones import Zone

STORED = 8
MOST_STACK = 100
MOST_BUDGET = 400


def _are_definitions(thing):
    """Tells whether a thing is a dict of at most eight names to programs."""
    if not isinstance(thing, dict) or len(thing) > MOST_DEFINITIONS:
        return False
    return all([is_name(name) and isinstance(thing[name], Program) for name in thing])


def need_definitions(definitions):
    """Refuses what are no definitions, each of which calls only those ahead of it."""
    if not _are_definitions(definitions):
        raise NoProgram(definitions)
    ahead = []
    for name in definitions:
        need_known(definitions[name].calls(), ahead)
        ahead.append(name)


def _are_numbers(thing, low, high):
    """Tells whether a thing is a list of from low to high numbers."""
    return is_list(thing, low, high) and all([is_number(number) for number in thing])


def need_limits(stack, budget):
    """Refuses what is no most of a stack, and no budget."""
    if not is_whole(stack, 1, MOST_STACK):
        raise NoLimit(stack)
    if not is_whole(budget, 1, MOST_BUDGET):
        raise NoLimit(budget)


class Machine:
    """Definitions, a size, worths, a zone, a store and a stack; it changes by its runs alone."""

    def __init__(self, definitions, *, size, worths, zone, store=None, stack=24, budget=400):
        need_definitions(definitions)
        need_size(size)
        if not _are_numbers(worths, 0, MOST_WORTHS):
            raise NoWorths(worths)
        if not isinstance(zone, Zone):
            raise NoZone(zone)
        if store is not None and not _are_numbers(store, STORED, STORED):
            raise NoNumber(store)
        need_limits(stack, budget)
        self._blocks = {name: definitions[name].words() for name in definitions}
        self._size = size
        self._worths = list(worths)
        self._zone = zone
        self._store = [0] * STORED if store is None else list(store)
        self._most = stack
        self._budget = budget
        self._stack = []
        self._trail = []
        self._log = []
        self._begun = 0

    def run(self, program):
        """Does a program; tells how many words, and rounds of words, were counted."""
        need_program(program)
        need_known(program.calls(), list(self._blocks))
        run = Run(self._blocks, size=self._size, worths=self._worths, zone=self._zone, store=self._store,
                  stack=self._most, budget=self._budget)
        self._log.append("in")
        self._begun += 1
        try:
            run.do_words(program.words())
        finally:
            self._begun -= 1
            self._log.append("out")
        self._store = run.kept
        self._worths = run.controls
        self._zone = run.zone_now
        self._stack = run.pile
        self._trail = run.did
        return run.counted

    def store(self):
        """Tells its store."""
        return list(self._store)

    def worths(self):
        """Tells its worths."""
        return list(self._worths)

    def stack(self):
        """Tells the things that the last run that wasn't refused left on the stack, the lowest first."""
        return list(self._stack)

    def zone(self):
        """Tells its zone."""
        return self._zone

    def trail(self):
        """Tells the plain words that the last run that wasn't refused did."""
        return list(self._trail)

    def log(self):
        """Tells of each run that it began and that it ended."""
        return list(self._log)

    def at_rest(self):
        """Tells whether no run has begun that hasn't ended."""
        return self._begun == 0
