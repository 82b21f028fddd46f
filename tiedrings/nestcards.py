"""The cards of a nest, found by walking."""

from tiedrings.cards import HOME, check_place
from tiedrings.treeview import chain_of


def left_node(chain, named):
    """Return the largest node of the chain all of whose places have been named."""
    left = chain[0]
    for node in chain:
        # The nodes of a chain contain each other, so the first one that fails ends the search.
        if not all([place in named for place in node]):
            return left
        left = node
    return left


def walk_chains(nest, chains, place):
    """Return the pairs of a node that the walk leaves and its gate; nothing is checked."""
    steps = []
    named = {}
    last = place
    while last != HOME:
        named[last] = True
        node = left_node(chains[last], named)
        last = nest.gate_of(node)
        steps.append((node, last))
    return steps


def walk_card(nest, chains, place):
    """Return the gates of the walk without HOME, which is the card of the place."""
    return [gate for _, gate in walk_chains(nest, chains, place) if gate != HOME]


def all_chains(nest):
    """Return for each place the nodes that contain it, the smallest first."""
    return [chain_of(nest, place) for place in range(nest.size)]


def card_of(nest, place):
    """Return the card of the place."""
    check_place(nest.size, place)
    return walk_card(nest, all_chains(nest), place)


def cards_of(nest):
    """Return the book of all cards."""
    chains = all_chains(nest)
    return [walk_card(nest, chains, place) for place in range(nest.size)]


def walk_from(nest, place):
    """Yield a pair of a node and its gate for each node that the walk leaves."""
    check_place(nest.size, place)
    steps = walk_chains(nest, all_chains(nest), place)
    for step in steps:
        yield step
