"""Calm places: their folk end at the same place, whatever the order of shutting."""

from tiedrings.cards import check_book, check_place
from tiedrings.faults import first_rest


def is_calm(book, place):
    """Tell whether the place is calm."""
    check_book(book)
    check_place(len(book), place)
    return first_rest(book, place) is None


def calm_places(book):
    """Return the calm places, ascending."""
    check_book(book)
    return [place for place in range(len(book)) if first_rest(book, place) is None]


def orders_of_way(size, place, goal, past):
    """Return two orders of all places outside the list: over the goal, and the place last."""
    others = [other for other in range(size) if other != place and other not in past]
    off_way = [other for other in others if other != goal]
    return off_way + [place, goal], others + [place]


def unrest(book, place):
    """Return two orders that part the folk of the place, or None if it is calm."""
    check_book(book)
    check_place(len(book), place)
    rest = first_rest(book, place)
    if rest is None:
        return None
    # The entry stands ahead of all that the rest fault keeps, so the folk can be sent over it;
    # it and the place itself then ask for unlike ones of what is kept open.
    entry, kept = rest
    return orders_of_way(len(book), place, book[place][entry], kept)
