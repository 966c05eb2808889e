"""All ways through flows: the heights and counts that they come to, and ways that come to them.

What a flow does from a height on is reckoned once, as if nothing were counted ahead of it: so rounds within rounds
are soon told.
"""

from hintedpoints.counts import Counting, has_count, least_of, listed, most_of, only
from hintedpoints.flows import fails_by


class Course:
    """What comes of a flow that is begun at a height, as if nothing were counted ahead of it.

    States are, for each node, a dict from the heights that ways have there to the sets of their counts; longest is
    the most counted when some way comes to a step that counts, -1 where none does.
    """

    def __init__(self, states, last, longest):
        self.states = states
        # The heights at the last node, with the least of their counts and all of them.
        self.at_end = [(least_of(counts), height, counts) for height, counts in states[last].items()]
        self.longest = longest


class Courses:
    """The courses of flows, by a stack's most and a budget.

    A spot is a tuple (flow, height, node, high, count): in a flow that was begun at a height the node, the stack's
    height there, and how many were counted there since the flow was begun.
    """

    def __init__(self, flows, most, budget):
        self._flows = flows.flows
        self._main = flows.main
        self._most = most
        self._budget = budget
        self._counting = Counting(budget)
        self._known = {}
        # For each flow and height from which some way goes it, the fewest counted ahead of it and the spot there.
        self._begun = {(self._main, 0): (0, None)}
        self._faults = {}
        self._done = {}
        self._top = (self._main, 0, 0, 0, 0)
        self._look_through()

    def _course(self, flow, height):
        """Tells the course of a flow from a height on."""
        key = (flow, height)
        if key not in self._known:
            self._known[key] = self._reckoned(flow, height)
        return self._known[key]

    def _end_of(self, flow, height):
        """Tells the counts, by heights, at the end of a flow that is begun at a height."""
        return self._course(flow, height).states[flow.last]

    def _behind(self, step, height, counts):
        """Tells the counts, by heights, that come of a height and counts by a step."""
        if step.inner is not None:
            room = self._budget - least_of(counts)
            at_end = self._course(step.inner, height).at_end
            return {high: self._counting.sums(counts, ends) for least, high, ends in at_end if least <= room}
        if fails_by(step, height, self._most) is not None:
            return {}
        found = self._counting.later(counts)
        return {height - step.taken + step.given: found} if found != 0 else {}

    def _longest(self, step, height, counts):
        """Tells the most counted when some way comes by a step, from a height and counts, to one that counts."""
        if step.inner is None:
            return most_of(counts)
        return min(self._budget, most_of(counts) + self._course(step.inner, height).longest)

    def _reckoned(self, flow, height):
        """Tells the course of a flow from a height on, which isn't known yet."""
        states = [{} for _ in flow.out]
        states[0][height] = only(0)
        longest = -1
        for step in flow.steps:
            there = states[step.end]
            for high, counts in list(states[step.begin].items()):
                longest = max(longest, self._longest(step, high, counts))
                found = self._behind(step, high, counts)
                for each in found:
                    there[each] = there.get(each, 0) | found[each]
        return Course(states, flow.last, longest)

    def _look_through(self):
        """Notes what ways can come to, flow by flow, each behind those that lead through it."""
        for flow in reversed(self._flows):
            for height in range(self._most + 1):
                if (flow, height) in self._begun:
                    self._look_at(flow, height)
        ends = self._end_of(self._main, 0)
        for high in ends:
            self._note_top((self._main, 0, self._main.last, high, least_of(ends[high])))

    def _look_at(self, flow, height):
        """Notes what ways can come to in a flow that is begun at a height."""
        ahead, _ = self._begun[(flow, height)]
        states = self._course(flow, height).states
        for step in flow.steps:
            for high, counts in states[step.begin].items():
                spot = (flow, height, step.begin, high, least_of(counts))
                if ahead + least_of(counts) <= self._budget:
                    self._note_top(spot)
                    self._note(step, spot, ahead + least_of(counts))

    def _note_top(self, spot):
        """Notes a spot where the stack is higher than at the one noted so far."""
        if spot[3] > self._top[3]:
            self._top = spot

    def _note(self, step, spot, count):
        """Notes what comes of a step at a spot at which so many are counted in all."""
        if step.inner is not None:
            key = (step.inner, spot[3])
            if key not in self._begun or count < self._begun[key][0]:
                self._begun[key] = (count, spot)
            return
        if count == self._budget:
            return
        why = fails_by(step, spot[3], self._most)
        if why is None:
            self._done[step.number] = True
        elif why not in self._faults or count < self._faults[why][0]:
            self._faults[why] = (count, spot)

    def _count_ahead(self, step, before, counts, spot):
        """Tells how many can have been counted where a step to a spot began, at a height and counts; else None."""
        _, _, _, high, count = spot
        if step.inner is None:
            fits = fails_by(step, before, self._most) is None and before - step.taken + step.given == high
            return count - 1 if fits and has_count(counts, count - 1) else None
        found = self._end_of(step.inner, before).get(high, 0)
        for ahead in listed(counts):
            if has_count(found, count - ahead):
                return ahead
        return None

    def _step_to(self, spot):
        """Tells a step that leads to a spot, and the spot where it begins."""
        flow, height, node, _, _ = spot
        states = self._course(flow, height).states
        for step in flow.into[node]:
            for before, counts in states[step.begin].items():
                ahead = self._count_ahead(step, before, counts, spot)
                if ahead is not None:
                    return (step, (flow, height, step.begin, before, ahead))
        return None

    def _way_within(self, spot):
        """Tells a way to a spot from where its flow was begun."""
        way = []
        while spot[2] != 0:
            step, before = self._step_to(spot)
            if step.inner is not None:
                inner = (step.inner, before[3], step.inner.last, spot[3], spot[4] - before[4])
                way = self._way_within(inner) + way
            elif step.truth is not None:
                way = [step.truth] + way
            spot = before
        return way

    def _way_to(self, spot):
        """Tells a way to a spot."""
        way = []
        while spot is not None:
            way = self._way_within(spot) + way
            _, spot = self._begun[(spot[0], spot[1])]
        return way

    def _way_on(self, flow, height, count):
        """Tells a way, from where a flow was begun at a height, to a step that counts, so many being counted there."""
        states = self._course(flow, height).states
        for step in flow.steps:
            for high, counts in states[step.begin].items():
                for ahead in listed(counts):
                    if ahead <= count <= self._longest(step, high, only(ahead)):
                        way = self._way_within((flow, height, step.begin, high, ahead))
                        if step.inner is None:
                            return way
                        return way + self._way_on(step.inner, high, count - ahead)
        return []

    def ends(self):
        """Tells tuples (height, least, way, most, other) of the ways that come to their end."""
        found = []
        ends = self._end_of(self._main, 0)
        for height in sorted(ends):
            row = [height]
            for count in (least_of(ends[height]), most_of(ends[height])):
                row.extend([count, self._way_within((self._main, 0, self._main.last, height, count))])
            found.append(tuple(row))
        return found

    def faults(self):
        """Tells tuples (word, least, way) of the ways that fail."""
        found = []
        if self._course(self._main, 0).longest == self._budget:
            found.append(("budget", self._budget, self._way_on(self._main, 0, self._budget)))
        for why in ("lack", "full"):
            if why in self._faults:
                count, spot = self._faults[why]
                found.append((why, count, self._way_to(spot)))
        return found

    def way_to_top(self):
        """Tells a way to where the stack is highest of all."""
        return self._way_to(self._top)

    def is_done(self, number):
        """Tells whether some way does a word."""
        return number in self._done
