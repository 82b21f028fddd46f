"""Whether two books send watched folk alike, and an order that parts them if not."""

from itertools import combinations

from tiedrings.cards import check_book, check_list, first_not_in
from tiedrings.errors import BadSize
from tiedrings.openreach import reach_past
from tiedrings.pairtable import table_rows
from tiedrings.shutting import send_on


def check_books(book, other, watched):
    """Refuse what are no two books of one size, or no list of places of them."""
    check_book(book)
    check_book(other)
    if len(book) != len(other):
        raise BadSize(len(other))
    check_list(len(book), watched)


def are_alike(book, other, watched):
    """Tell whether the watched folk are at the same places in both books, whatever is shut."""
    check_books(book, other, watched)
    return table_rows(book, watched) == table_rows(other, watched)


def lists_past(size):
    """Return all lists of one or two places."""
    pairs = [list(pair) for pair in combinations(range(size), 2)]
    return [[place] for place in range(size)] + pairs


def first_in(card, past):
    """Return the first entry of the card that is in the list, or None."""
    for entry in card:
        if entry in past:
            return entry
    return None


def way_to(before, goal):
    """Return the shortest way to the goal, from its start on."""
    way = []
    reached = goal
    while reached is not None:
        way.append(reached)
        reached = before[reached]
    return list(reversed(way))


def parting_way(book, other, watched):
    """Return a list of places, and a way past it to a place with unlike cards; or None."""
    for past in lists_past(len(book)):
        before = reach_past(book, watched, past)
        for place in before:
            if first_in(book[place], past) != first_in(other[place], past):
                return past, way_to(before, place)
    return None


def until_parted(book, other, watched, order):
    """Return the order as far as the shutting after which somebody watched is parted."""
    stands = list(range(len(book)))
    others = list(stands)
    for at, place in enumerate(order):
        shut = order[:at + 1]
        stands = send_on(stands, place, first_not_in(book[place], shut))
        others = send_on(others, place, first_not_in(other[place], shut))
        if any([stands[folk] != others[folk] for folk in watched]):
            return shut
    return order


def parting_order(book, other, watched):
    """Return an order that parts somebody watched between the books, or None if they are alike."""
    check_books(book, other, watched)
    found = parting_way(book, other, watched)
    if found is None:
        return None
    past, way = found
    off_way = [place for place in range(len(book)) if place not in past and place not in way]
    return until_parted(book, other, watched, off_way + way)
