"""How many shapes of nests there are.

A series is a list of numbers by the number of places, from 0 places on.
"""

from math import factorial, gcd

from tiedrings.cards import check_size
from tiedrings.nestcounts import Counts


def divisors(number):
    """Return the divisors, ascending."""
    return [part for part in range(1, number + 1) if number % part == 0]


def count_prime_to(number):
    """Return how many integers from 1 on have no common divisor with the number but 1."""
    return len([other for other in range(1, number + 1) if gcd(other, number) == 1])


def marked_shapes(size):
    """Return the series of shapes of closed nests with a marked place."""
    counts = Counts(size)
    return [counts.marked(part) // factorial(part) for part in range(size + 1)]


def ring_words(series):
    """Return the series of rows of such shapes that are cut from a circle anywhere."""
    words = [0]
    for size in range(1, len(series)):
        further = [series[part] * words[size - part] for part in range(1, size)]
        words.append(size * series[size] + sum(further))
    return words


def circles(series):
    """Return the series of circles of such shapes."""
    words = ring_words(series)
    found = [0]
    for size in range(1, len(series)):
        turned = [count_prime_to(part) * words[size // part] for part in divisors(size)]
        found.append(sum(turned) // size)
    return found


def product_of(series, other):
    """Return the product of two series with equally many entries, cut to as many."""
    return [
        sum([series[part] * other[size - part] for part in range(size + 1)])
        for size in range(len(series))
    ]


def put_into(series, inner):
    """Return the sum of the powers of the inner series, each one times its entry of the series."""
    power = [1] + [0] * (len(inner) - 1)
    total = [0] * len(inner)
    for worth in series[1:]:
        power = product_of(power, inner)
        total = [number + worth * term for number, term in zip(total, power)]
    return total


def next_count(marked, counts):
    """Return how many shapes there are with one place more than there are counts for."""
    size = len(counts)
    single = [0] + counts
    rooted = put_into(marked[:size + 1], single)
    round_tops = circles(rooted)
    # These are the shapes with just one top that leads home.
    trees = [single[part] + round_tops[part] - rooted[part] for part in range(size + 1)]
    terms = [
        sum([part * trees[part] for part in divisors(first)]) * counts[size - first]
        for first in range(1, size + 1)
    ]
    return sum(terms) // size


def count_shapes(size):
    """Return the number of shapes of nests."""
    check_size(size)
    marked = marked_shapes(size)
    counts = [1]
    while len(counts) <= size:
        counts.append(next_count(marked, counts))
    return counts[size]


def count_closed_shapes(size):
    """Return the number of shapes of closed nests."""
    check_size(size)
    if size == 1:
        return 1
    marked = marked_shapes(size)
    return circles(marked)[size] - marked[size]
