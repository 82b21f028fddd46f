"""Nests side by side."""

from tiedrings.nests import Nest
from tiedrings.renaming import rename_pair


def side_by_side(first, *others):
    """Return the nest of all the nests, the places of each one behind those of the ones before."""
    nests = [first] + list(others)
    pairs = []
    start = 0
    for nest in nests:
        names = list(range(start, start + nest.size))
        pairs.extend([rename_pair(pair, names) for pair in nest])
        start += nest.size
    # Too many places are refused by the nest.
    return Nest(start, pairs)
