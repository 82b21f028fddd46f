"""Nests: places tied into rings, and rings tied into greater rings."""

from tiedrings.cards import HOME, check_size
from tiedrings.errors import BadNest
from tiedrings.knots import Knots, leads_out, normal_order


def gate_table(gates):
    """Return the gates by their nodes; a node that stands twice is refused."""
    table = {}
    for places, gate in gates:
        if places in table:
            raise BadNest()
        table[places] = gate
    return table


def check_gates(size, table):
    """Refuse nodes with gates that are not just those of a nest."""
    def told_gate(node):
        if node not in table or not leads_out(size, node, table[node]):
            raise BadNest()
        return table[node]

    knots = Knots(size)
    knots.tie_all(told_gate)
    if len(knots.gates) != len(table):
        raise BadNest()


class Nest:
    """A nest: its nodes with their gates. It never changes."""

    def __init__(self, size, gates):
        check_size(size)
        table = gate_table(gates)
        check_gates(size, table)
        self.size = size
        self._pairs = [(node, table[node]) for node in normal_order(list(table))]
        self._gates = table

    @classmethod
    def loose(cls, size):
        """Return the nest in which all gates are HOME."""
        check_size(size)
        return cls(size, [((place,), HOME) for place in range(size)])

    @property
    def nodes(self):
        """The pairs of a node and its gate, in normal order."""
        return list(self._pairs)

    def __iter__(self):
        return iter(self._pairs)

    def gate_of(self, places):
        """Return the gate of the node."""
        if places not in self._gates:
            raise BadNest()
        return self._gates[places]

    def tops(self):
        """Return the nodes that are members of no ring, by their least places."""
        largest = {}
        for node, _ in self._pairs:
            for place in node:
                largest[place] = node
        return [largest[place] for place in range(self.size) if largest[place][0] == place]

    def rings(self):
        """Return all rings in normal order."""
        return [node for node, _ in self._pairs if len(node) > 1]
