"""A nest seen as a tree: members, rings above a node, and the way home."""

from tiedrings.cards import HOME, check_list, check_place


def chain_of(nest, place):
    """Return the nodes that contain the place, the smallest first; nothing is checked."""
    return [node for node, _ in nest if place in node]


def ring_over(nest, node):
    """Return the smallest node that is larger than the node and contains it, or None."""
    for larger in chain_of(nest, node[0]):
        if len(larger) > len(node):
            return larger
    return None


def ring_from(nest, largest, place):
    """Return the members of a ring in ring order, from that of the place; each place has its own."""
    members = [largest[place]]
    following = largest[nest.gate_of(members[-1])]
    while following != members[0]:
        members.append(following)
        following = largest[nest.gate_of(following)]
    return members


def members_by_node(nest):
    """Return for each node its members in ring order; none for a single."""
    members = {}
    largest = {}
    # In normal order the members of a ring are the largest nodes before it.
    for node, _ in nest:
        members[node] = ring_from(nest, largest, node[0]) if len(node) > 1 else []
        for place in node:
            largest[place] = node
    return members


def members_of(nest, places):
    """Return the members of a ring in ring order; an empty list for a single."""
    nest.gate_of(places)
    return members_by_node(nest)[places]


def ring_above(nest, places):
    """Return the ring of which the node is a member, or None for a top."""
    nest.gate_of(places)
    return ring_over(nest, places)


def least_node(nest, places):
    """Return the smallest node that contains all places of the list, or None."""
    check_list(nest.size, places)
    for node, _ in nest:
        if all([place in node for place in places]):
            return node
    return None


def nodes_around(nest, place):
    """Return the nodes that contain the place, the smallest first."""
    check_place(nest.size, place)
    return chain_of(nest, place)


def way_home(nest, place):
    """Return the tops that are passed from the top of the place until home."""
    check_place(nest.size, place)
    way = []
    gate = place
    while gate != HOME:
        top = chain_of(nest, gate)[-1]
        way.append(top)
        gate = nest.gate_of(top)
    return way
