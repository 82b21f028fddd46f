"""Tying the nest from which a book is read."""

from tiedrings.cards import HOME
from tiedrings.errors import NotTied
from tiedrings.faults import first_fault
from tiedrings.knots import Knots
from tiedrings.nests import Nest


def tie_nest(size, gate_of_node):
    """Return the nest in which the function tells the gate of each node."""
    knots = Knots(size)
    knots.tie_all(gate_of_node)
    return Nest(size, list(knots.gates.items()))


def tie_cards(book, most):
    """Return the nest of the book's gates, where nodes with more than `most` places lead home."""
    def card_gate(node):
        card = book[node[0]]
        if len(node) > most or len(node) > len(card):
            return HOME
        return card[len(node) - 1]

    return tie_nest(len(book), card_gate)


def tie(book):
    """Return the nest from which the book is read."""
    fault = first_fault(book)
    if fault is not None:
        raise NotTied(fault[0], fault[1])
    return tie_cards(book, len(book))
