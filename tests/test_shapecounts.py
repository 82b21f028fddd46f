import math
from fractions import Fraction

from tests.helpers import Case, all_nests
from tiedrings.closedranks import nth_closed
from tiedrings.errors import BadSize
from tiedrings.nestcounts import count_closed, count_nests
from tiedrings.shapecounts import count_closed_shapes, count_shapes
from tiedrings.shapes import shape_code


def plain_circles(p, n):
    """N(n) for the series p, as point 30 tells it."""
    words = {}
    for m in range(1, n + 1):
        words[m] = m * p[m] + sum(p[k] * words[m - k] for k in range(1, m))
    total = 0
    for k in range(1, n + 1):
        if n % k == 0:
            total += sum(1 for j in range(1, k + 1) if math.gcd(j, k) == 1) * words[n // k]
    return Fraction(total, n)


def plain_power(b, s, n):
    """The coefficient of x ** n in the power s of the series b, which begins with x."""
    if s == 0:
        return 1 if n == 0 else 0
    return sum(b[k] * plain_power(b, s - 1, n - k) for k in range(1, n - s + 2))


def plain_shapes(n, marked):
    counts, singles, rooted, trees = {0: 1}, {}, {}, {}
    for m in range(1, n + 1):
        singles[m] = counts[m - 1]
        rooted[m] = sum(marked[s] * plain_power(singles, s, m) for s in range(1, m + 1))
        trees[m] = singles[m] + plain_circles(rooted, m) - rooted[m]
        counts[m] = Fraction(sum(
            sum(d * trees[d] for d in range(1, k + 1) if k % d == 0) * counts[m - k]
            for k in range(1, m + 1)), m)
    return counts[n]


class ShapeCountsTest(Case):
    def test_first_numbers(self):
        self.assertEqual([count_shapes(n) for n in range(1, 5)], [1, 3, 9, 36])
        self.assertEqual([count_closed_shapes(n) for n in range(1, 5)], [1, 1, 2, 7])

    def test_by_listing(self):
        for size in range(1, 5):
            nests = list(all_nests(size))
            self.assertEqual(len({shape_code(nest) for nest in nests}), count_shapes(size))
            closed = {shape_code(nest) for nest in nests if len(nest.tops()) == 1}
            self.assertEqual(len(closed), count_closed_shapes(size))
        codes = {shape_code(nth_closed(5, number)) for number in range(count_closed(5))}
        self.assertEqual(len(codes), count_closed_shapes(5))

    def test_by_the_sums(self):
        marked = {s: Fraction(s * count_closed(s), math.factorial(s)) for s in range(1, 17)}
        for size in range(1, 10):
            self.assertEqual(count_shapes(size), plain_shapes(size, marked))
        for size in range(2, 17):
            closed = plain_circles(marked, size) - marked[size]
            self.assertEqual(count_closed_shapes(size), closed)

    def test_many_places(self):
        # A shape belongs to at most n! nests; most of those with many places have no own namings.
        for size in range(1, 17):
            orders = math.factorial(size)
            for shapes, nests in (
                (count_shapes(size), count_nests(size)),
                (count_closed_shapes(size), count_closed(size)),
            ):
                self.assertIs(type(shapes), int)
                self.assertGreaterEqual(shapes * orders, nests)
                self.assertLess(shapes * orders, 3 * nests)

    def test_refuses(self):
        for size in (0, 17, -1):
            self.refuses(BadSize, {"size": size}, count_shapes, size)
            self.refuses(BadSize, {"size": size}, count_closed_shapes, size)
