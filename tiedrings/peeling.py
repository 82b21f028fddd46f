"""Building a nest from the loose one, and the steps that this takes."""

from tiedrings.cards import HOME
from tiedrings.leading import do_steps
from tiedrings.nests import Nest


def peel(nest):
    """Return the steps that build the nest from the loose one."""
    return [("lead", node, gate) for node, gate in nest if gate != HOME]


def build(size, steps):
    """Return the nest that the steps make of the loose one."""
    return do_steps(Nest.loose(size), steps)
