"""Half-known nests: the nodes are known, and for each node some gates that it may have."""

from math import gcd

from tiedrings.cards import HOME, check_end, check_list, check_place, is_place
from tiedrings.errors import BadChoice, BadNumber, NoWorld
from tiedrings.nests import Nest
from tiedrings.treeview import chain_of


def choices_around(nest, node, gate):
    """Return all gates that lead the same way as the gate of the node, ascending."""
    if gate == HOME:
        return [HOME]
    # The gate leads to the largest node around it that does not contain this one.
    return list([other for other in chain_of(nest, gate) if node[0] not in other][-1])


def check_choices(nest, choices):
    """Refuse lists that are not valid choices, one list for each node."""
    if len(choices) != len(nest.nodes):
        raise BadChoice(())
    for (node, gate), row in zip(nest.nodes, choices):
        if not row or row != [one for one in choices_around(nest, node, gate) if one in row]:
            raise BadChoice(node)


def count_worlds(rows):
    """Return the product of the numbers of choices."""
    number = 1
    for _, row in rows:
        number = number * len(row)
    return number


def can_be_seen(size, shut, stands):
    """Tell whether these can be stands while just these places are shut."""
    if len(stands) != size:
        return False
    if not all([stand == HOME or is_place(size, stand) for stand in stands]):
        return False
    return all([stands[place] == place for place in range(size) if place not in shut])


def fits_node(node, gate, stands):
    """Tell whether all places of a shut node stand where its gate stands."""
    seen = HOME if gate == HOME else stands[gate]
    return all([stands[place] == seen for place in node])


def fitting_row(node, row, shut, stands):
    """Return the choices of the node that fit the look; all of them if it is not shut whole."""
    if not all([place in shut for place in node]):
        return list(row)
    return [gate for gate in row if fits_node(node, gate, stands)]


def shut_row(rows, shut, place):
    """Return the index of the largest node around the place that is shut whole, or None."""
    found = None
    for at, (node, _) in enumerate(rows):
        if place in node and all([other in shut for other in node]):
            found = at
    return found


def weigh(rows, shut, place, known):
    """Note the ends of the place, and of all that its folk can come to, with their weights."""
    if place in known:
        return
    at = shut_row(rows, shut, place)
    if at is None:
        known[place] = {place: count_worlds(rows)}
        return
    _, row = rows[at]
    weights = {}
    for gate in row:
        weigh(rows, shut, gate, known)
        # This node is not passed again, so the worlds with this gate are an equal part of those.
        for end, weight in known[gate].items():
            weights[end] = weights.get(end, 0) + weight // len(row)
    known[place] = weights


def gates_to(rows, shut, place, goal, known):
    """Return the gates of a world in which the end of the place is the goal."""
    gates = [row[0] for _, row in rows]
    reached = place
    while reached != goal:
        at = shut_row(rows, shut, reached)
        gates[at] = [gate for gate in rows[at][1] if goal in known[gate]][0]
        reached = gates[at]
    return gates


class HalfKnown:
    """The nodes of a nest, each with its choices. Looks make the choices fewer."""

    def __init__(self, nest, choices):
        check_choices(nest, choices)
        self.size = nest.size
        self._rows = [(node, list(row)) for (node, _), row in zip(nest.nodes, choices)]

    @classmethod
    def around(cls, nest):
        """Return the half-known nest with all valid choices."""
        return cls(nest, [choices_around(nest, node, gate) for node, gate in nest])

    @property
    def worlds(self):
        """The number of worlds."""
        return count_worlds(self._rows)

    @property
    def choices(self):
        """The choices of each node, in normal order of the nodes."""
        return [list(row) for _, row in self._rows]

    def _rows_seen(self, shut, stands):
        """Return the nodes with the choices that fit the look, perhaps with none."""
        check_list(self.size, shut)
        if not can_be_seen(self.size, shut, stands):
            return [(node, []) for node, _ in self._rows]
        return [(node, fitting_row(node, row, shut, stands)) for node, row in self._rows]

    def see(self, shut, stands):
        """Keep only the worlds that fit the look; return their number."""
        rows = self._rows_seen(shut, stands)
        if count_worlds(rows) == 0:
            raise NoWorld()
        self._rows = rows
        return self.worlds

    def fits(self, shut, stands):
        """Return the number of worlds that fit the look."""
        return count_worlds(self._rows_seen(shut, stands))

    def _known_ends(self, place, shut):
        """Return the ends of the place, and of all that its folk can come to, with their weights."""
        check_place(self.size, place)
        check_list(self.size, shut)
        known = {}
        weigh(self._rows, shut, place, known)
        return known

    def ends(self, place, shut):
        """Return the pairs of an end of the place and its weight, HOME first."""
        return sorted(self._known_ends(place, shut)[place].items())

    def sure(self, place, shut):
        """Return the end if it is the same in all worlds, otherwise None."""
        ends = self.ends(place, shut)
        return ends[0][0] if len(ends) == 1 else None

    def share(self, place, shut, end):
        """Return the share of the end, numerator and denominator in lowest terms."""
        weights = self._known_ends(place, shut)[place]
        check_end(self.size, end)
        weight = weights.get(end, 0)
        common = gcd(weight, self.worlds)
        return weight // common, self.worlds // common

    def part(self, place, shut):
        """Return two worlds with unlike ends of the place, or None if the end is sure."""
        known = self._known_ends(place, shut)
        ends = sorted(known[place])
        if len(ends) == 1:
            return None
        first = gates_to(self._rows, shut, place, ends[0], known)
        second = gates_to(self._rows, shut, place, ends[1], known)
        return self._world_of(first), self._world_of(second)

    def _world_of(self, gates):
        """Return the world in which the nodes have these gates."""
        return Nest(self.size, [(node, gate) for (node, _), gate in zip(self._rows, gates)])

    def world(self, number):
        """Return the world with this number."""
        if not 0 <= number < self.worlds:
            raise BadNumber(number)
        gates = []
        left = number
        for _, row in reversed(self._rows):
            left, index = divmod(left, len(row))
            gates.append(row[index])
        return self._world_of(list(reversed(gates)))

    def world_number(self, nest):
        """Return the number of the world, or None if the nest is not one of the worlds."""
        if [node for node, _ in nest] != [node for node, _ in self._rows]:
            return None
        number = 0
        for node, row in self._rows:
            gate = nest.gate_of(node)
            if gate not in row:
                return None
            number = number * len(row) + row.index(gate)
        return number
