"""A nest seen as a tree: members, rings above a node, and the way home."""

from tiedrings.cards import HOME, check_list, check_place


def chain_of(nest, place):
    """Return the nodes that contain the place, the smallest first; nothing is checked."""
    return [node for node, _ in nest if place in node]


def ring_over(nest, node):
    """Return the smallest node that is larger than the node and contains it, or None."""
    for larger in chain_of(nest, node[0]):
        if len(larger) > len(node):
            return larger
    return None


def in_ring_order(nest, members):
    """Return the members of a ring in ring order, that with the least place first."""
    if not members:
        return []
    ordered = [min(members)]
    while len(ordered) < len(members):
        gate = nest.gate_of(ordered[-1])
        ordered.extend([member for member in members if gate in member])
    return ordered


def members_of(nest, places):
    """Return the members of a ring in ring order; an empty list for a single."""
    nest.gate_of(places)
    members = [node for node, _ in nest if ring_over(nest, node) == places]
    return in_ring_order(nest, members)


def ring_above(nest, places):
    """Return the ring of which the node is a member, or None for a top."""
    nest.gate_of(places)
    return ring_over(nest, places)


def least_node(nest, places):
    """Return the smallest node that contains all places of the list, or None."""
    check_list(nest.size, places)
    for node, _ in nest:
        if all([place in node for place in places]):
            return node
    return None


def nodes_around(nest, place):
    """Return the nodes that contain the place, the smallest first."""
    check_place(nest.size, place)
    return chain_of(nest, place)


def way_home(nest, place):
    """Return the tops that are passed from the top of the place until home."""
    check_place(nest.size, place)
    way = []
    gate = place
    while gate != HOME:
        top = chain_of(nest, gate)[-1]
        way.append(top)
        gate = nest.gate_of(top)
    return way
