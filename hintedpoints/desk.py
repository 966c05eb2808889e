"""A desk that takes lines: some change its font, some ask of it."""

from hintedpoints.answers import ANSWERS, CHANGES, Bench
from hintedpoints.errors import NoLine, Unready
from hintedpoints.fonttext import read_font
from hintedpoints.lines import things_of
from hintedpoints.sessions import need_session_limits
from hintedpoints.sizes import BUDGET, STACK


class Desk:
    """A font, at first none, and its session; it changes by its lines alone."""

    def __init__(self, *, keep=3, stack=STACK, budget=BUDGET):
        need_session_limits(keep, stack, budget)
        self._keep = keep
        self._stack = stack
        self._budget = budget
        self._bench = None
        # The benches' fonts ahead of each line that can be taken back, None where there was none.
        self._ahead = []
        self._rows = []
        self._begun = 0

    def __len__(self):
        return len(self._ahead)

    def _have(self, font):
        """Has a font from now on, with a new session, or none."""
        if font is None:
            self._bench = None
        else:
            self._bench = Bench(font, keep=self._keep, stack=self._stack, budget=self._budget)
        return "ok"

    def _change_to(self, font):
        """Has another font by a line that can be taken back."""
        self._ahead.append(None if self._bench is None else self._bench.font)
        return self._have(font)

    def _answer(self, word, things):
        """Tells the answer to a line of a first word and the things behind it."""
        if word == "font":
            return self._change_to(read_font(things[0]))
        if self._bench is None:
            raise Unready()
        # A font is here by a line that can be taken back.
        if word == "undo":
            return self._have(self._ahead.pop())
        if word in CHANGES:
            change = CHANGES[word]
            return self._change_to(change(self._bench.font, *things))
        ask = ANSWERS[word]
        return ask(self._bench, *things)

    def say(self, line):
        """Tells the answer to a line."""
        word, things = things_of(line)
        if things is None:
            raise NoLine(line)
        end = "refused"
        self._begun += 1
        try:
            answer = self._answer(word, things)
            end = "done"
        finally:
            self._begun -= 1
            self._rows.append((word, end))
        return answer

    def rows(self):
        """Tells the rows (word, end) of the lines that it was told."""
        return list(self._rows)

    def at_work(self):
        """Tells how many lines are at work."""
        return self._begun
