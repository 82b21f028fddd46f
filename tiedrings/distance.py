"""What two nests have in common, and the fewest steps from one to the other."""

from tiedrings.cards import HOME
from tiedrings.errors import BadSize
from tiedrings.extracting import lies_in
from tiedrings.peeling import build, peel


def gates_inside(nest, places):
    """Return the nodes that lie in these places, with their gates."""
    return [(node, gate) for node, gate in nest if lies_in(node, places)]


def common_nodes(nest, other):
    """Return the nodes that lead to the same place in both nests and are the same inside."""
    if nest.size != other.size:
        raise BadSize(other.size)
    return [
        node for node, gate in nest
        if gate != HOME and gates_inside(nest, node) == gates_inside(other, node)
    ]


def common_part(nest, other):
    """Return the greatest common part of the nests, a nest."""
    common = common_nodes(nest, other)
    return build(nest.size, [step for step in peel(nest) if step[1] in common])


def fewest_steps(nest, other):
    """Return the fewest steps from the nest to the other one."""
    common = common_nodes(nest, other)
    undone = [("loosen", step[1]) for step in reversed(peel(nest)) if step[1] not in common]
    return undone + [step for step in peel(other) if step[1] not in common]


def step_count(nest, other):
    """Return the number of the fewest steps from the nest to the other one."""
    return len(fewest_steps(nest, other))
