"""The fewest shuttings that bring folk to a goal, in any book with few places."""

from tiedrings.cards import HOME, check_book, check_place, first_not_in
from tiedrings.errors import BadSize

MOST_SEARCHED = 8


def stand_after(book, stand, shut, place):
    """Return where the folk who stand there are after the place is shut, too."""
    return first_not_in(book[place], shut + [place]) if place == stand else stand


def further_ways(book, ways):
    """Return pairs of a stand and an order with one place more shut than in these pairs.

    Only what is shut and where the folk stand counts, so one order is kept for each such state.
    Whoever is at home stays there, so orders that lead home are left out.
    """
    found = {}
    for stand, order in ways:
        for place in range(len(book)):
            if place not in order:
                goal = stand_after(book, stand, order, place)
                state = (tuple(sorted(order + [place])), goal)
                if goal != HOME and state not in found:
                    found[state] = (goal, order + [place])
    return list(found.values())


def least_order(book, place, goal):
    """Return a shortest order after which the folk of the place stand at the goal, or None."""
    ways = [(place, [])]
    while ways:
        for stand, order in ways:
            if stand == goal:
                return order
        ways = further_ways(book, ways)
    return None


def fewest_shuttings(book, place, goal):
    """Return the fewest shuttings after which the folk stand at the goal, and an order; or None."""
    check_book(book)
    if len(book) > MOST_SEARCHED:
        raise BadSize(len(book))
    check_place(len(book), place)
    check_place(len(book), goal)
    order = least_order(book, place, goal)
    if order is None:
        return None
    return len(order), order
