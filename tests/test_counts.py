"""Sets of counts, by which a look ahead reckons: they serve points 83 and 84."""

import random
import unittest

from hintedpoints.counts import Counting, has_count, least_of, listed, most_of, only


def number_of(counts):
    """The number that is a set of counts."""
    return sum(1 << count for count in counts)


class Counts(unittest.TestCase):
    def test_what_is_in_a_set(self):
        for counts in ([0], [400], [0, 400], [3, 4, 9], list(range(401))):
            told = number_of(counts)
            self.assertEqual((least_of(told), most_of(told), listed(told)), (min(counts), max(counts), counts))
            self.assertEqual([count for count in range(-3, 500) if has_count(told, count)], counts)
        self.assertEqual((most_of(0), listed(0)), (-1, []))
        self.assertEqual([listed(only(count)) for count in (0, 7, 400)], [[0], [7], [400]])

    def test_later(self):
        self.assertEqual(listed(Counting(9).later(number_of([0, 3, 8]))), [1, 4, 9])
        self.assertEqual(listed(Counting(9).later(number_of([3, 9]))), [4])
        self.assertEqual(Counting(9).later(only(9)), 0)

    def test_sums(self):
        for seed in range(300):
            chance = random.Random(seed)
            budget = chance.choice([1, 2, 9, 50, 399, 400])
            most = chance.choice([1, 5, budget, budget])
            one, other = ({chance.randint(0, min(most, budget)) for _ in range(chance.choice([1, 3, 40, 900]))}
                          for _ in range(2))
            counting = Counting(budget)
            wanted = sorted({a + b for a in one for b in other if a + b <= budget})
            for _ in range(2):
                self.assertEqual(listed(counting.sums(number_of(one), number_of(other))), wanted)

    def test_sums_of_all_counts(self):
        whole = number_of(range(401))
        self.assertEqual(Counting(400).sums(whole, whole), whole)
        self.assertEqual(Counting(400).sums(only(400), only(1)), 0)
        self.assertEqual(Counting(400).sums(only(400), only(0)), only(400))


if __name__ == "__main__":
    unittest.main()
