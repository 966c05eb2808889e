"""Looks ahead: how high and how long a program's ways are and where they fail, without running it."""

from hintedpoints.courses import Courses
from hintedpoints.errors import NoChoices
from hintedpoints.flows import Flows, fails_by
from hintedpoints.fonts import need_size
from hintedpoints.machine import MOST_BUDGET, need_definitions, need_limits
from hintedpoints.numbers import is_list
from hintedpoints.programs import need_known, need_program


def _need_truths(thing):
    """Refuses what is no list of truths."""
    if not is_list(thing, 0, MOST_BUDGET) or not all([isinstance(truth, bool) for truth in thing]):
        raise NoChoices(thing)


def _flows_of(program, definitions, size, stack, budget):
    """Tells the flows of a program; refuses definitions, a size, a stack's most and a budget that are none."""
    named = {} if definitions is None else definitions
    need_definitions(named)
    need_known(program.calls(), named)
    if size is not None:
        need_size(size)
    need_limits(stack, budget)
    return Flows(program, named, size)


class Walk:
    """One way through flows, by truths and, where they are at an end, by False."""

    def __init__(self, truths, stack, budget):
        self._truths = truths
        self._most = stack
        self._budget = budget
        self.went = []
        self.height = 0
        self.counted = 0
        self.highest = 0

    def _way_on(self, steps):
        """Tells which of the steps of an ask is gone."""
        at = len(self.went)
        truth = at < len(self._truths) and self._truths[at]
        self.went.append(truth)
        return [step for step in steps if step.truth == truth][0]

    def _counts(self, steps):
        """Goes one of the steps that count; tells it, and by what it failed, or None."""
        if self.counted == self._budget:
            return (steps[0], "budget")
        why = fails_by(steps[0], self.height, self._most)
        if why is not None:
            return (steps[0], why)
        step = steps[0] if steps[0].truth is None else self._way_on(steps)
        self.height += step.given - step.taken
        self.counted += 1
        self.highest = max(self.highest, self.height)
        return (step, None)

    def goes(self, flow):
        """Goes through a flow; tells by what it failed, or None."""
        node = 0
        why = None
        while node != flow.last and why is None:
            step = flow.out[node][0]
            if step.inner is None:
                step, why = self._counts(flow.out[node])
            else:
                why = self.goes(step.inner)
            node = step.end
        return why


def gone_by(program, truths, *, definitions=None, size=None, stack=24, budget=400):
    """Tells how a program ends by a way, how high the stack is then, how many words were counted, and the top."""
    need_program(program)
    _need_truths(truths)
    walk = Walk(truths, stack, budget)
    why = walk.goes(_flows_of(program, definitions, size, stack, budget).main)
    if len(walk.went) != len(truths):
        raise NoChoices(truths)
    return ("end" if why is None else why, walk.height, walk.counted, walk.highest)


class Look:
    """What all ways through a program come to; it never changes."""

    def __init__(self, program, *, definitions=None, size=None, stack=24, budget=400):
        need_program(program)
        flows = _flows_of(program, definitions, size, stack, budget)
        courses = Courses(flows, stack, budget)
        # A way to the top goes on behind it, by any truths.
        walk = Walk(courses.way_to_top(), stack, budget)
        walk.goes(flows.main)
        self._ends = courses.ends()
        self._faults = courses.faults()
        self._highest = walk.highest
        self._way = walk.went
        self._idle = [number for number in range(len(program)) if not courses.is_done(number)]

    def ends(self):
        """Tells tuples (height, least, way, most, other) of the ways that come to their end, by height."""
        return [(height, least, list(way), most, list(other)) for height, least, way, most, other in self._ends]

    def faults(self):
        """Tells tuples (word, least, way) of the ways that fail."""
        return [(word, least, list(way)) for word, least, way in self._faults]

    def top(self):
        """Tells the greatest height of all ways, and a way that has it."""
        return (self._highest, list(self._way))

    def idle(self):
        """Tells the numbers of the words that no way does."""
        return list(self._idle)
