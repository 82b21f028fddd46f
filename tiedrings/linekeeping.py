"""Lines: in which order the folk stand at each place."""

from tiedrings.cards import HOME, check_list, first_not_in
from tiedrings.nestcards import cards_of


def line_up(nest, order):
    """Return the lines after the places have been shut in this order."""
    check_list(nest.size, order)
    cards = cards_of(nest)
    lines = [[place] for place in range(nest.size)]
    for at, place in enumerate(order):
        goal = first_not_in(cards[place], order[:at + 1])
        if goal != HOME:
            lines[goal] = lines[goal] + lines[place]
        lines[place] = []
    return lines


def first_led_ring(nest):
    """Return the first ring whose gate is a place, or None."""
    for ring in nest.rings():
        if nest.gate_of(ring) != HOME:
            return ring
    return None


def first_shared_gate(nest):
    """Return the first two nodes with the same place as their gate, or None."""
    leading = {}
    for node, gate in nest:
        if gate in leading:
            return leading[gate], node
        if gate != HOME:
            leading[gate] = node
    return None


def line_fault(nest):
    """Return a place, and two orders after which the lines there differ; None if there are none."""
    ring = first_led_ring(nest)
    if ring is not None:
        # Whoever is shut last leads the line of the ring.
        return nest.gate_of(ring), list(ring), list(reversed(ring))
    shared = first_shared_gate(nest)
    if shared is None:
        return None
    # No ring has a place as its gate, so these two nodes are singles.
    node, other = shared
    return nest.gate_of(node), list(node + other), list(other + node)


def keeps_lines(nest):
    """Tell whether the order of shutting never changes a line."""
    return line_fault(nest) is None
