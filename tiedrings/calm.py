"""Calm places: their folk end at the same place, whatever the order of shutting."""

from tiedrings.cards import check_book, check_place
from tiedrings.faults import kept_apart
from tiedrings.pastways import first_of, ways_past


def has_rest(book, place):
    """Tell whether no entry of the place has a rest fault."""
    return all([not kept_apart(book, place, entry) for entry in range(len(book[place]))])


def is_calm(book, place):
    """Tell whether the place is calm."""
    check_book(book)
    check_place(len(book), place)
    return has_rest(book, place)


def calm_places(book):
    """Return the calm places, ascending."""
    check_book(book)
    return [place for place in range(len(book)) if has_rest(book, place)]


def small_lists(size, left_out):
    """Return the lists of one or two places without the one that is left out."""
    places = [place for place in range(size) if place != left_out]
    pairs = [[low, high] for low in places for high in places if low < high]
    return [[place] for place in places] + pairs


def parting_way(book, place, past):
    """Return a way past the list to a place that sends the folk elsewhere, or None."""
    asked = first_of(book[place], past)
    ways = ways_past(book, [place], past)
    for goal in ways:
        if first_of(book[goal], past) != asked:
            return ways[goal]
    return None


def orders_of_way(size, place, past, way):
    """Return two orders of all places outside the list: along the way, and the place last."""
    outside = [other for other in range(size) if other not in past]
    off_way = [other for other in outside if other not in way]
    others = [other for other in outside if other != place]
    return off_way + way, others + [place]


def unrest(book, place):
    """Return two orders that part the folk of the place, or None if it is calm."""
    check_book(book)
    check_place(len(book), place)
    for past in small_lists(len(book), place):
        way = parting_way(book, place, past)
        if way is not None:
            return orders_of_way(len(book), place, past, way)
    return None
