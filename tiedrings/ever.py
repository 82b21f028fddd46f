"""Whose folk can stand at a kept place at some time."""

from tiedrings.arrows import check_kept
from tiedrings.cards import check_place
from tiedrings.errors import BadPlace
from tiedrings.gathering import gathering_order, hopeful_places


def check_goal(book, kept, goal):
    """Refuse a goal that is not kept."""
    check_kept(book, kept)
    if goal not in kept:
        raise BadPlace(goal)


def ever_at(book, kept, goal):
    """Return the places whose folk can stand at the goal at some time, the goal included."""
    check_goal(book, kept, goal)
    return sorted([goal] + hopeful_places(book, kept, [goal]))


def way_there(book, kept, goal, place):
    """Return an order after which the folk of the place stand at the goal, or None."""
    check_goal(book, kept, goal)
    check_place(len(book), place)
    if place == goal:
        return []
    if place not in hopeful_places(book, kept, [goal]):
        return None
    return gathering_order(book, kept, [goal])
