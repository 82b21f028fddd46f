"""How many folk can be piled up at a place."""

from tiedrings.cards import check_place
from tiedrings.errors import BadNumber
from tiedrings.feeding import feeders_by_place, feeders_of


def lying_on(nest, goal):
    """Return for each feeder, and for the goal as a single, the feeders that lie on it."""
    by_place = feeders_by_place(nest, goal)
    lying = {}
    for node in feeders_of(nest, goal):
        below = by_place.get(nest.gate_of(node), (goal,))
        lying.setdefault(below, []).append(node)
    return lying


def joined(sets, more):
    """Return places by their number, one list of either kind together; the lists share no place."""
    found = {}
    for places in list(sets.values()):
        for others in list(more.values()):
            found.setdefault(len(places) + len(others), places + others)
    return found


def complete_sets(lying, node):
    """Return the places of complete sets of what lies on the node, one list for each number."""
    sets = {0: []}
    for feeder in lying.get(node, []):
        above = joined({len(feeder): list(feeder)}, complete_sets(lying, feeder))
        # The feeder itself may be left out, with all that lies on it.
        above[0] = []
        sets = joined(sets, above)
    return sets


def pile_sizes(nest, goal):
    """Return the pile sizes, ascending."""
    check_place(nest.size, goal)
    return sorted(complete_sets(lying_on(nest, goal), (goal,)))


def pile(nest, goal, number):
    """Return how many folk can stand at the goal with so many places shut, and such places."""
    check_place(nest.size, goal)
    if not 0 <= number < nest.size:
        raise BadNumber(number)
    sets = complete_sets(lying_on(nest, goal), (goal,))
    best = max([size for size in sets if size <= number])
    shut = sets[best]
    others = [place for place in range(nest.size) if place != goal and place not in shut]
    return best + 1, sorted(shut + others[:number - best])
