"""How many nests there are.

A block is what one size of the next node contributes to such a number, so blocks also number nests.
"""

from tiedrings.cards import MOST, check_size
from tiedrings.choosing import choose
from tiedrings.errors import BadSize


class Counts:
    """The numbers of point 24 for nests with `size` places, and for all parts of them."""

    def __init__(self, size):
        self.letters = size + 1
        self.closed = [0]
        self.rows = [1]
        self.rests = [1]
        for part in range(1, size + 1):
            self.closed.append(1 if part == 1 else sum(self.ring_blocks(part)))
            self.rows.append(sum(self.row_blocks(part)))
            self.rests.append(sum(self.top_blocks(part, self.letters)))

    def marked(self, part):
        """Return the number of closed nests with a marked place."""
        return part * self.closed[part]

    def ring_blocks(self, part):
        """Return the closed nests by the size of the first member, which has the least place."""
        return [
            choose(part - 1, first - 1) * self.marked(first) * self.rows[part - first]
            for first in range(1, part)
        ]

    def row_blocks(self, part):
        """Return the rows of marked members by the size of the first member."""
        return [
            choose(part, first) * self.marked(first) * self.rows[part - first]
            for first in range(1, part + 1)
        ]

    def top_blocks(self, part, letters):
        """Return the tops on these places by the size of the next one, which has so many letters."""
        return [
            choose(part - 1, first - 1) * self.closed[first] * letters * self.rests[part - first]
            for first in range(1, part + 1)
        ]

    def nests(self):
        """Return the number of all nests."""
        return sum(self.top_blocks(self.letters - 1, 1))


def take_block(blocks, number):
    """Return the size of the block in which the number falls, and its number in there."""
    size = 1
    left = number
    while left >= blocks[size - 1]:
        left -= blocks[size - 1]
        size += 1
    return size, left


def count_closed(size):
    """Return the number of closed nests."""
    check_size(size)
    return Counts(size).closed[size]


def count_rows(size):
    """Return the number of rows of marked members; there is one on no places."""
    if not 0 <= size <= MOST:
        raise BadSize(size)
    return Counts(size).rows[size]


def count_nests(size):
    """Return the number of nests."""
    check_size(size)
    return Counts(size).nests()
