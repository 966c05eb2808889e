"""Sets of counts of words, each kept as one whole number that has the bit of each count in it."""

# The hex digits that a count has where sets are multiplied.
DIGITS = 3


def only(count):
    """Tells the set of one count."""
    return 1 << count


def least_of(counts):
    """Tells the least count of a set."""
    return (counts & -counts).bit_length() - 1


def most_of(counts):
    """Tells the greatest count of a set, -1 of the one without counts."""
    return counts.bit_length() - 1


def has_count(counts, count):
    """Tells whether a count is in a set."""
    return count >= 0 and (counts >> count) & 1 == 1


def listed(counts):
    """Tells the counts of a set, rising."""
    return [count for count in range(most_of(counts) + 1) if has_count(counts, count)]


def _spread(counts):
    """Tells the number of which three hex digits for each count are 1 where it is in a set, else 0."""
    return int(f"{counts:b}".replace("0", "000").replace("1", "001"), 16)


class Counting:
    """What becomes of sets of counts that aren't above a budget."""

    def __init__(self, budget):
        self._all = only(budget + 1) - 1
        self._ones = _spread(self._all)
        self._known = {}
        self._known_spread = {}

    def later(self, counts):
        """Tells the counts that are greater by one."""
        return (counts << 1) & self._all

    def sums(self, one, other):
        """Tells the counts that are one of a set and one of another set together."""
        # Rounds within rounds ask for the same sums over and over.
        key = (one, other)
        if key not in self._known:
            self._known[key] = self._multiplied(one, other)
        return self._known[key]

    def _spread_of(self, counts):
        """Tells a set spread, which is done but once."""
        if counts not in self._known_spread:
            self._known_spread[counts] = _spread(counts)
        return self._known_spread[counts]

    def _multiplied(self, one, other):
        """Tells sums that aren't known yet."""
        # Three digits of the product tell in how many ways a count is a sum, which are 401 at most.
        ways = self._spread_of(one) * self._spread_of(other)
        # With 2047 more the highest bit of three digits, that of 2048, is 1 where there is any way.
        found = ((ways + 2047 * self._ones) >> 11) & self._ones
        return int(f"{found:x}"[::-DIGITS][::-1], 2)
