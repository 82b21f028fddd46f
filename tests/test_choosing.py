import itertools

from tests.helpers import Case
from tiedrings.choosing import choose, nth_subset, subset_number
from tiedrings.errors import BadNumber


class ChooseTest(Case):
    def test_by_the_triangle(self):
        row = [1]
        for total in range(65):
            self.assertEqual([choose(total, part) for part in range(total + 1)], row)
            row = [1] + [a + b for a, b in zip(row, row[1:])] + [1]

    def test_outside(self):
        for total in (0, 1, 5, 64):
            for part in (-1, -70, total + 1, total + 9):
                self.assertEqual(choose(total, part), 0)

    def test_edges(self):
        self.assertEqual(choose(0, 0), 1)
        self.assertEqual(choose(64, 0), 1)
        self.assertEqual(choose(64, 64), 1)
        self.assertEqual(choose(64, 32), 1832624140942590534)


class SubsetsTest(Case):
    def test_all_small_ones(self):
        for total in range(8):
            for part in range(total + 1):
                listed = [list(some) for some in itertools.combinations(range(total), part)]
                self.assertEqual(listed, sorted(listed))
                numbers = range(len(listed))
                self.assertEqual([nth_subset(total, part, k) for k in numbers], listed)
                self.assertEqual([subset_number(total, some) for some in listed], list(numbers))

    def test_great_ones(self):
        last = choose(64, 32) - 1
        self.assertEqual(nth_subset(64, 32, 0), list(range(32)))
        self.assertEqual(nth_subset(64, 32, last), list(range(32, 64)))
        for number in (1, 77, 10 ** 9 + 7, 10 ** 17, last - 1):
            self.assertEqual(subset_number(64, nth_subset(64, 32, number)), number)
        self.assertEqual(subset_number(64, [63]), 63)

    def test_empty_subset(self):
        self.assertEqual(nth_subset(0, 0, 0), [])
        self.assertEqual(nth_subset(64, 0, 0), [])
        self.assertEqual(subset_number(0, []), 0)

    def test_refuses(self):
        for total, part, number in (
            (5, 2, 10), (5, 2, -1), (5, 0, 1), (5, 5, 1), (0, 0, 1), (5, -1, 0), (5, 6, 0), (0, 1, 0),
            (64, 32, choose(64, 32)),
        ):
            self.refuses(BadNumber, {"number": number}, nth_subset, total, part, number)
