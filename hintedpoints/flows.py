"""Flows: what words do, laid out as steps from node to node, in which no numbers are known."""

from hintedpoints.words import effect


class Step:
    """A way on from one node of a flow to another one.

    Where inner is None it counts one and takes things off the stack and puts others there, by a word of this number
    (None for a round of a repeat); where truth isn't None it is one of the two ways on of an ask. Else it leads
    through all that the flow inner does.
    """

    def __init__(self, begin, end, *, taken, given, truth, number, inner):
        self.begin = begin
        self.end = end
        self.taken = taken
        self.given = given
        self.truth = truth
        self.number = number
        self.inner = inner


class Flow:
    """The steps that a block's words do, from node 0 to the last node.

    All steps into a node stand ahead of those out of it.
    """

    def __init__(self):
        self.steps = []
        # For each node the steps out of it, and those into it.
        self.out = []
        self.into = []
        self.last = self.new_node()

    def new_node(self):
        """Adds a node; tells its number."""
        self.out.append([])
        self.into.append([])
        return len(self.out) - 1

    def put_step(self, begin, end, *, taken=0, given=0, truth=None, number=None, inner=None):
        """Adds a step."""
        step = Step(begin, end, taken=taken, given=given, truth=truth, number=number, inner=inner)
        self.steps.append(step)
        self.out[begin].append(step)
        self.into[end].append(step)


def fails_by(step, height, most):
    """Tells whether a step that counts fails at a height of the stack by `lack` or `full`, None where it doesn't."""
    if height < step.taken:
        return "lack"
    if height - step.taken + step.given > most:
        return "full"
    return None


class Flows:
    """The flows of a program's words and of definitions' ones, for a size or, where it is None, for any."""

    def __init__(self, program, definitions, size):
        self._size = size
        # Each stands behind those through which it leads, so that of the program is the last one.
        self.flows = []
        self._named = {}
        # The words of definitions have numbers behind the program's own.
        self._number = len(program)
        for name in definitions:
            self._named[name] = self._flow_of(definitions[name].words())
        self._number = 0
        self.main = self._flow_of(program.words())

    def _flow_of(self, words):
        """Tells the flow that words are."""
        flow = Flow()
        if len(words) > 0:
            flow.last = flow.new_node()
        self._add_words(flow, words, 0, flow.last)
        self.flows.append(flow)
        return flow

    def _add_words(self, flow, words, begin, end):
        """Adds what words do between two nodes."""
        for at, word in enumerate(words):
            following = end if at + 1 == len(words) else flow.new_node()
            self._add_word(flow, word, begin, following)
            begin = following

    def _add_block(self, flow, words, begin, end, *, number, taken=0, truth=None):
        """Adds a step into a block, and what the block's words do."""
        inside = end if len(words) == 0 else flow.new_node()
        flow.put_step(begin, inside, taken=taken, truth=truth, number=number)
        self._add_words(flow, words, inside, end)

    def _add_if(self, flow, word, begin, end, number):
        """Adds an `if`."""
        self._add_block(flow, word[1], begin, end, number=number, taken=1, truth=True)
        self._add_block(flow, word[2], begin, end, number=number, taken=1, truth=False)

    def _add_when(self, flow, word, begin, end, number):
        """Adds a `when`."""
        _, low, high, words = word
        if self._size is None:
            self._add_block(flow, words, begin, end, number=number, truth=True)
            self._add_block(flow, [], begin, end, number=number, truth=False)
        elif low <= self._size <= high:
            self._add_block(flow, words, begin, end, number=number)
        else:
            self._add_block(flow, [], begin, end, number=number)
            # Nothing leads to these words, but they have their numbers.
            self._add_words(flow, words, flow.new_node(), end)

    def _add_repeat(self, flow, word, begin, end, number):
        """Adds a `repeat`."""
        _, many, words = word
        inner = self._flow_of(words)
        nodes = [begin] + [flow.new_node() for _ in range(many)] + [end]
        flow.put_step(nodes[0], nodes[1], number=number)
        for here, following in zip(nodes[1:], nodes[2:]):
            inside = flow.new_node()
            flow.put_step(here, inside)
            flow.put_step(inside, following, inner=inner)

    def _add_call(self, flow, word, begin, end, number):
        """Adds a `call`."""
        inside = flow.new_node()
        flow.put_step(begin, inside, number=number)
        flow.put_step(inside, end, inner=self._named[word[1]])

    def _add_word(self, flow, word, begin, end):
        """Adds what a word does between two nodes."""
        number = self._number
        self._number += 1
        if word[0] == "if":
            self._add_if(flow, word, begin, end, number)
        elif word[0] == "when":
            self._add_when(flow, word, begin, end, number)
        elif word[0] == "repeat":
            self._add_repeat(flow, word, begin, end, number)
        elif word[0] == "call":
            self._add_call(flow, word, begin, end, number)
        else:
            taken, given = effect(word)
            flow.put_step(begin, end, taken=taken, given=given, number=number)
