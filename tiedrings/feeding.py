"""Feeders: the nodes that send folk to a place when they are shut."""

from tiedrings.cards import check_list, check_place
from tiedrings.errors import BadPlace
from tiedrings.treeview import chain_of, members_by_node, way_home


def feeders_by_place(nest, goal):
    """Return for each place of a feeder this feeder; no two feeders have a place in common."""
    around = chain_of(nest, goal)
    members = members_by_node(nest)
    found = [member for ring in around for member in members[ring]]
    found.extend([top for top in nest.tops() if around[-1] in way_home(nest, top[0])])
    return {place: node for node in found if goal not in node for place in node}


def feeders_of(nest, goal):
    """Return the feeders in normal order; nothing is checked."""
    by_place = feeders_by_place(nest, goal)
    return [node for node, _ in nest if by_place.get(node[0]) == node]


def way_of(nest, by_place, goal, place):
    """Return the feed way from the place, or None if it lies in no feeder."""
    way = []
    reached = place
    while reached != goal:
        if reached not in by_place:
            return None
        way.append(by_place[reached])
        reached = nest.gate_of(way[-1])
    return way


def shut_on(way):
    """Return the places of the feeders on a feed way, ascending; None for no way."""
    if way is None:
        return None
    return sorted([place for node in way for place in node])


def least_lists(nest, goal):
    """Return for each place the least list that brings its folk to the goal, or None."""
    by_place = feeders_by_place(nest, goal)
    return [shut_on(way_of(nest, by_place, goal, place)) for place in range(nest.size)]


def feeders(nest, goal):
    """Return the feeders of the goal with their gates."""
    check_place(nest.size, goal)
    return [(node, nest.gate_of(node)) for node in feeders_of(nest, goal)]


def feed_way(nest, goal, place):
    """Return the feeders from that of the place down to one whose gate is the goal, or None."""
    check_place(nest.size, goal)
    check_place(nest.size, place)
    return way_of(nest, feeders_by_place(nest, goal), goal, place)


def all_shut(places, shut):
    """Tell whether all the places are shut; None, for no way, never is."""
    return places is not None and all([place in shut for place in places])


def stand_by_feeders(nest, shut, goal):
    """Return the places whose folk stand at the goal, which is not shut."""
    check_list(nest.size, shut)
    check_place(nest.size, goal)
    if goal in shut:
        raise BadPlace(goal)
    return [place for place, least in enumerate(least_lists(nest, goal)) if all_shut(least, shut)]


def least_shutting(nest, place, goal):
    """Return the least list of places to shut that brings the folk to the goal, or None."""
    check_place(nest.size, place)
    check_place(nest.size, goal)
    return least_lists(nest, goal)[place]
