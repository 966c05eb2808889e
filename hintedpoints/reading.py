"""Rows of a program's text, and the words that they write."""

from hintedpoints.words import BLOCKS, blocks_of, head_of, head_of_row, row_of


def rows_of(words):
    """Tells the rows that write words."""
    rows = []
    for word in words:
        rows.append(row_of(head_of(word)))
        blocks = blocks_of(word)
        for at, block in enumerate(blocks):
            if at > 0:
                rows.append("else")
            rows.extend(rows_of(block))
        if len(blocks) > 0:
            rows.append("end")
    return rows


class Reading:
    """The words that rows write, taken row by row; it knows the blocks that have begun and not ended."""

    def __init__(self):
        self._block = []
        # For each block that has begun and not ended: the head of the word that has it,
        # the blocks of the word that have ended, and the words ahead of the word.
        self._begun = []

    def _blocks_left(self):
        """Tells how many blocks of the word whose block has begun last haven't ended, 0 where there is none."""
        if not self.is_open():
            return 0
        head, blocks, _ = self._begun[-1]
        return BLOCKS[head[0]] - len(blocks)

    def _end_block(self):
        """Ends the block that has begun last, and its word with its last one."""
        head, blocks, ahead = self._begun.pop()
        blocks = (*blocks, self._block)
        if len(blocks) < BLOCKS[head[0]]:
            self._begun.append((head, blocks, ahead))
            self._block = []
        else:
            ahead.append(head + blocks)
            self._block = ahead

    def takes(self, row):
        """Tells whether a row can stand behind the ones taken so far; it is taken then."""
        if row in ("else", "end"):
            wanted = 2 if row == "else" else 1
            if self._blocks_left() != wanted:
                return False
            self._end_block()
            return True
        head = head_of_row(row)
        if head is None:
            return False
        if head[0] in BLOCKS:
            self._begun.append((head, (), self._block))
            self._block = []
        else:
            self._block.append(head)
        return True

    def is_open(self):
        """Tells whether a block has begun and not ended."""
        return len(self._begun) > 0

    def words(self):
        """Tells the words that were taken, where no block has begun and not ended."""
        return self._block
