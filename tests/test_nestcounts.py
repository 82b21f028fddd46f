import math

from tests.helpers import Case, all_nests
from tiedrings.errors import BadSize
from tiedrings.nestcounts import count_closed, count_nests, count_rows


def plain_closed(n):
    if n == 1:
        return 1
    return sum(
        math.comb(n - 1, s - 1) * s * plain_closed(s) * plain_rows(n - s) for s in range(1, n))


def plain_rows(m):
    if m == 0:
        return 1
    return sum(
        math.comb(m, s) * s * plain_closed(s) * plain_rows(m - s) for s in range(1, m + 1))


class CountsTest(Case):
    def test_first_numbers(self):
        self.assertEqual([count_closed(n) for n in range(1, 6)], [1, 1, 8, 138, 3984])
        self.assertEqual([count_nests(n) for n in range(1, 6)], [1, 4, 36, 588, 15480])
        self.assertEqual([count_rows(n) for n in range(4)], [1, 1, 4, 42])

    def test_by_listing(self):
        for size in range(1, 5):
            nests = list(all_nests(size))
            self.assertEqual(count_nests(size), len(nests))
            self.assertEqual(count_closed(size), len([x for x in nests if len(x.tops()) == 1]))

    def test_by_the_sums(self):
        for size in range(1, 7):
            self.assertEqual(count_closed(size), plain_closed(size))
            self.assertEqual(count_rows(size), plain_rows(size))

    def test_sixteen_places(self):
        # The whole sums again, with tables kept.
        closed, rows = {1: 1}, {0: 1}
        for n in range(1, 17):
            if n > 1:
                closed[n] = sum(
                    math.comb(n - 1, s - 1) * s * closed[s] * rows[n - s] for s in range(1, n))
            rows[n] = sum(
                math.comb(n, s) * s * closed[s] * rows[n - s] for s in range(1, n + 1))
        for n in range(1, 17):
            rest = {0: 1}
            for m in range(1, n + 1):
                rest[m] = sum(
                    math.comb(m - 1, s - 1) * closed[s] * (n + 1) * rest[m - s]
                    for s in range(1, m + 1))
            nests = sum(
                math.comb(n - 1, s - 1) * closed[s] * rest[n - s] for s in range(1, n + 1))
            self.assertEqual((count_closed(n), count_rows(n), count_nests(n)),
                             (closed[n], rows[n], nests))

    def test_refuses(self):
        for size in (0, -1, 17):
            self.refuses(BadSize, {"size": size}, count_closed, size)
            self.refuses(BadSize, {"size": size}, count_nests, size)
        for size in (-1, 17):
            self.refuses(BadSize, {"size": size}, count_rows, size)
