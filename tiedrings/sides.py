"""Nests side by side."""

from tiedrings.cards import check_size
from tiedrings.nests import Nest
from tiedrings.renaming import rename_pair


def side_by_side(first, *others):
    """Return the nest of all the nests, the places of each one behind those of the ones before."""
    nests = [first] + list(others)
    size = sum([nest.size for nest in nests])
    check_size(size)
    pairs = []
    start = 0
    for nest in nests:
        names = list(range(start, start + nest.size))
        pairs.extend([rename_pair(pair, names) for pair in nest])
        start += nest.size
    return Nest(size, pairs)
