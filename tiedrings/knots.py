"""Tying rings: nodes get their gates one by one, and circles of nodes become rings.

Nests, ties and tiers all grow in this way. Nothing is checked here.
"""

from tiedrings.cards import HOME


def normal_order(nodes):
    """Return the nodes in normal order: fewer places first, then by their places."""
    return sorted(nodes, key=lambda node: (len(node), node))


def leads_out(size, node, gate):
    """Tell whether the gate is HOME or a place outside of the node."""
    return gate == HOME or (0 <= gate < size and gate not in node)


class Knots:
    """The nodes that are known so far, with the gates that they have so far."""

    def __init__(self, size):
        self.gates = {}
        self.largest = [(place,) for place in range(size)]

    def circle_from(self, node):
        """Return the circle of nodes that begins with this one, or an empty list."""
        circle = [node]
        gate = self.gates[node]
        while gate != HOME:
            reached = self.largest[gate]
            if reached == node:
                return circle
            circle.append(reached)
            gate = self.gates.get(reached, HOME)
        return []

    def put_gate(self, node, gate):
        """Give the node its gate; return the ring that this ties, or None."""
        self.gates[node] = gate
        circle = self.circle_from(node)
        if not circle:
            return None
        ring = tuple(sorted([place for member in circle for place in member]))
        for place in ring:
            self.largest[place] = ring
        return ring

    def tie_all(self, gate_of_node):
        """Ask the function for the gate of each single and of each ring that is tied."""
        todo = list(self.largest)
        while todo:
            node = todo.pop()
            ring = self.put_gate(node, gate_of_node(node))
            if ring is not None:
                todo.append(ring)
