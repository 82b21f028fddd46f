"""Renaming the places of a nest."""

from tiedrings.cards import HOME, check_names, check_size
from tiedrings.nests import Nest


def rename_node(node, names):
    """Return the node of the new names, ascending."""
    return tuple(sorted([names[place] for place in node]))


def rename_gate(gate, names):
    """Return the new name of the gate; HOME has no other one."""
    return HOME if gate == HOME else names[gate]


def rename_pair(pair, names):
    """Return the node and its gate by their new names."""
    node, gate = pair
    return rename_node(node, names), rename_gate(gate, names)


def rename_nest(nest, names):
    """Return the nest in which each place x is called names[x]."""
    check_names(nest.size, names)
    return Nest(nest.size, [rename_pair(pair, names) for pair in nest])


def check_own_names(names):
    """Refuse names that are not unlike places, as many as there are names."""
    check_size(len(names))
    check_names(len(names), names)


def join_names(names, others):
    """Return the names that rename at once as the names and then the others do."""
    check_own_names(names)
    check_names(len(names), others)
    return [others[name] for name in names]


def turn_names(names):
    """Return the names that take the renaming back."""
    check_own_names(names)
    return [names.index(place) for place in range(len(names))]
