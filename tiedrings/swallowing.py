"""Where a crowd sits in a nest while one place swallows everybody who comes to it."""

from tiedrings.cards import check_place
from tiedrings.flows import check_crowd, seated_in


def swallowed_in(nest, rooms, wishes, goal):
    """Return the numbers of people at each place, and vanished at the goal; nothing is checked."""
    # With more rooms than people the goal is never full, and its people do not count elsewhere.
    endless = [sum(wishes) + 1 if place == goal else rooms[place] for place in range(nest.size)]
    return seated_in(nest, endless, wishes)


def swallow(nest, rooms, wishes, goal):
    """Return the numbers of people at each place, and of those who vanished at the goal."""
    check_crowd(nest, rooms, wishes)
    check_place(nest.size, goal)
    return swallowed_in(nest, rooms, wishes, goal)
