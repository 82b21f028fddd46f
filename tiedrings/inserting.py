"""Putting a nest in the place of one place of another nest."""

from tiedrings.cards import MOST, check_people, check_place
from tiedrings.errors import BadNest, BadSize
from tiedrings.nests import Nest
from tiedrings.renaming import rename_gate, rename_node, rename_pair


def nodes_leading_to(nest, place):
    """Return the nodes whose gate is the place, in normal order."""
    return [node for node, gate in nest if gate == place]


def check_inner(nest, place, inner, entrances):
    """Refuse an inner nest or entrances that do not fit the place."""
    check_place(nest.size, place)
    if len(inner.tops()) > 1:
        raise BadNest()
    if len(entrances) != len(nodes_leading_to(nest, place)):
        raise BadSize(len(entrances))
    check_people(inner.size, entrances)
    if nest.size - 1 + inner.size > MOST:
        raise BadSize(nest.size - 1 + inner.size)


def inner_pairs(inner, names, gate):
    """Return the renamed nodes of the inner nest, whose top gets the gate."""
    top = inner.tops()[0]
    pairs = [rename_pair((node, led), names) for node, led in inner if node != top]
    pairs.append((rename_node(top, names), gate))
    return pairs


def outer_node(node, place, names, inner_names):
    """Return the renamed node of the outer nest, with all inner places instead of the place."""
    others = [names[other] for other in node if other != place]
    # The inner places have the greatest numbers, so they stand in ascending order behind the others.
    return tuple(others + inner_names if place in node else others)


def outer_gate(pair, place, names, entered):
    """Return the renamed gate of an outer node, or, if it is the place, where the node enters."""
    node, gate = pair
    return entered[node] if gate == place else rename_gate(gate, names)


def put_in(nest, place, inner, entrances):
    """Return the nest in which the inner nest stands in the place of the place."""
    check_inner(nest, place, inner, entrances)
    outside = [other for other in range(nest.size) if other != place]
    names = {old: new for new, old in enumerate(outside)}
    inner_names = [len(outside) + entry for entry in range(inner.size)]
    leading = nodes_leading_to(nest, place)
    entered = {node: inner_names[entry] for node, entry in zip(leading, entrances)}
    pairs = inner_pairs(inner, inner_names, rename_gate(nest.gate_of((place,)), names))
    for node, gate in nest:
        if node != (place,):
            led = outer_gate((node, gate), place, names, entered)
            pairs.append((outer_node(node, place, names, inner_names), led))
    return Nest(len(outside) + inner.size, pairs)
