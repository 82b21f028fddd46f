"""Numbers of subsets, found without listing the subsets."""

from math import comb

from tiedrings.errors import BadNumber


def choose(total, part):
    """Return how many subsets with `part` entries there are of `total` things."""
    if not 0 <= part <= total:
        return 0
    return comb(total, part)


def subset_number(total, chosen):
    """Return the number of the subset among those with equally many entries."""
    part = len(chosen)
    # A subset comes later if it agrees up to some entry, and all its others are greater than that.
    later = [choose(total - 1 - entry, part - at) for at, entry in enumerate(chosen)]
    return choose(total, part) - 1 - sum(later)


def nth_subset(total, part, number):
    """Return the subset with this number, ascending."""
    if not 0 <= number < choose(total, part):
        raise BadNumber(number)
    chosen = []
    left = number
    for entry in range(total):
        with_entry = choose(total - 1 - entry, part - len(chosen) - 1)
        if left < with_entry:
            chosen.append(entry)
        else:
            left -= with_entry
    return chosen


def number_among(places, chosen):
    """Return the number of the chosen places among the subsets of the ascending places."""
    return subset_number(len(places), [places.index(place) for place in chosen])


def nth_among(places, part, number):
    """Return the subset of the ascending places that has this number."""
    return [places[at] for at in nth_subset(len(places), part, number)]
