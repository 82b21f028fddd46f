"""Taking a node out of a nest."""

from tiedrings.cards import HOME
from tiedrings.nests import Nest
from tiedrings.renaming import rename_gate, rename_pair


def lies_in(node, places):
    """Tell whether the node is inside the other one, or is this node."""
    return all([place in places for place in node])


def inner_nest(nest, places):
    """Return the nest of the node and the nodes inside it."""
    names = {old: new for new, old in enumerate(places)}
    pairs = [(node, gate) for node, gate in nest if node != places and lies_in(node, places)]
    pairs.append((places, HOME))
    return Nest(len(places), [rename_pair(pair, names) for pair in pairs])


def outer_names(nest, places):
    """Return the new numbers by the old ones; all places of the node get the last number."""
    outside = [place for place in range(nest.size) if place not in places]
    names = {old: new for new, old in enumerate(outside)}
    for place in places:
        names[place] = len(outside)
    return names


def shrink_node(node, names):
    """Return the renamed node, in which several places may have become one."""
    return tuple(sorted({names[place] for place in node}))


def outer_nest(nest, places):
    """Return the nest in which the last place stands for the node."""
    names = outer_names(nest, places)
    pairs = [(node, gate) for node, gate in nest if node == places or not lies_in(node, places)]
    renamed = [(shrink_node(node, names), rename_gate(gate, names)) for node, gate in pairs]
    return Nest(names[places[0]] + 1, renamed)


def take_out(nest, places):
    """Return the outer nest, the inner nest, and the inner places where the outer nodes enter."""
    nest.gate_of(places)
    # No node that enters contains a place of this one, so renumbering does not change their order.
    entering = [gate for node, gate in nest if gate in places and not lies_in(node, places)]
    entrances = [places.index(gate) for gate in entering]
    return outer_nest(nest, places), inner_nest(nest, places), entrances
