"""Steps: one gate of a nest changes, and a ring may be tied or opened by it."""

from tiedrings.cards import HOME, is_place
from tiedrings.errors import BadStep
from tiedrings.treeview import members_by_node
from tiedrings.tying import tie_nest


def with_gate(nest, node, gate):
    """Return the nest in which the node has another gate; a ring that this ties leads home."""
    gates = {old: led for old, led in nest}
    gates[node] = gate

    def new_gate(found):
        return gates.get(found, HOME)

    return tie_nest(nest.size, new_gate)


def lead(nest, places, goal):
    """Return the nest in which the top, whose gate is HOME, leads to the goal."""
    if places not in nest.tops() or nest.gate_of(places) != HOME:
        raise BadStep()
    if not is_place(nest.size, goal) or goal in places:
        raise BadStep()
    return with_gate(nest, places, goal)


def can_loosen(nest, places):
    """Tell whether the node leads to a place and is a top, or a member of a top that leads home."""
    tops = nest.tops()
    if places in tops:
        return nest.gate_of(places) != HOME
    members = members_by_node(nest)
    return any([places in members[top] for top in tops if nest.gate_of(top) == HOME])


def loosen(nest, places):
    """Return the nest in which the node leads home; a ring of which it was a member is gone."""
    if not can_loosen(nest, places):
        raise BadStep()
    return with_gate(nest, places, HOME)


def do_step(nest, step):
    """Return the nest after the step, which is written as a tuple."""
    match step:
        case ("lead", places, goal):
            return lead(nest, places, goal)
        case ("loosen", places):
            return loosen(nest, places)
        case _:
            raise BadStep()


def do_steps(nest, steps):
    """Return the nest after the steps."""
    reached = nest
    for step in steps:
        reached = do_step(reached, step)
    return reached
