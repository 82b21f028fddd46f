"""The text of a nest."""

from tiedrings.cards import HOME, MOST
from tiedrings.cardtext import is_number
from tiedrings.errors import BadNest, BadText
from tiedrings.nests import Nest
from tiedrings.treeview import members_of

MOST_BRACKETS = 16


def format_node(nest, node):
    """Return the text of the node without its gate."""
    if len(node) == 1:
        return str(node[0])
    members = [format_led(nest, member) for member in members_of(nest, node)]
    return "(" + " ".join(members) + ")"


def format_led(nest, node):
    """Return the text of the node, followed by its gate."""
    gate = nest.gate_of(node)
    end = "-" if gate == HOME else str(gate)
    return f"{format_node(nest, node)}>{end}"


def format_nest(nest):
    """Return the normal text of the nest."""
    return " ".join([format_led(nest, top) for top in nest.tops()])


class NestReader:
    """Reads a text sign by sign and notes the nodes with their gates."""

    def __init__(self, text):
        self.text = text
        self.at = 0
        self.brackets = 0
        self.singles = 0
        self.pairs = []
        self.circles = []

    def sign(self):
        """Return the next sign, or the empty string at the end."""
        return self.text[self.at:self.at + 1]

    def take(self, sign):
        """Go past the next sign, which must be this one."""
        if self.sign() != sign:
            raise BadText()
        self.at += 1

    def take_number(self):
        """Go past a number and return it."""
        start = self.at
        while "0" <= self.sign() <= "9":
            self.at += 1
        digits = self.text[start:self.at]
        if not is_number(digits):
            raise BadText()
        return int(digits)

    def take_node(self):
        """Go past a single or a ring and return its places."""
        if self.sign() == "(":
            return self.take_ring()
        self.singles += 1
        return (self.take_number(),)

    def take_ring(self):
        """Go past a ring and return its places."""
        if self.brackets == MOST_BRACKETS:
            raise BadText()
        self.brackets += 1
        self.take("(")
        circle = [self.take_member()]
        while self.sign() == " ":
            self.take(" ")
            circle.append(self.take_member())
        self.take(")")
        self.brackets -= 1
        self.circles.append(circle)
        return tuple(sorted([place for places, _ in circle for place in places]))

    def take_member(self):
        """Go past a member and its gate; return both as a pair."""
        places = self.take_node()
        self.take(">")
        pair = (places, self.take_number())
        self.pairs.append(pair)
        return pair

    def take_top(self):
        """Go past a top and its gate."""
        places = self.take_node()
        self.take(">")
        if self.sign() == "-":
            self.take("-")
            self.pairs.append((places, HOME))
        else:
            self.pairs.append((places, self.take_number()))

    def take_all(self):
        """Go past the whole text."""
        self.take_top()
        while self.sign() == " ":
            self.take(" ")
            self.take_top()
        if self.at < len(self.text):
            raise BadText()


def leads_round(circle):
    """Tell whether the gate of each member lies in the next one."""
    gates = [gate for _, gate in circle]
    nodes = [places for places, _ in circle]
    following = nodes[1:] + nodes[:1]
    return all([gate in places for gate, places in zip(gates, following)])


def parse_nest(text):
    """Return the nest that the text tells."""
    reader = NestReader(text)
    reader.take_all()
    if reader.singles > MOST or not all([leads_round(circle) for circle in reader.circles]):
        raise BadNest()
    return Nest(reader.singles, reader.pairs)
