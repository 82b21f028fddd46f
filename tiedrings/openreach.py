"""Where watched folk can come past places that stay open."""

from tiedrings.arrows import came_from
from tiedrings.cards import check_book, check_list
from tiedrings.errors import BadNumber


def card_ahead(card, past):
    """Return the entries of the card ahead of all places of the list."""
    for at, entry in enumerate(card):
        if entry in past:
            return card[:at]
    return card


def reach_past(book, watched, past):
    """Return for each place that the watched folk can come to the one before it on a shortest way.

    Watched places have None there. Nothing is checked.
    """
    ends = {place: card_ahead(card, past) for place, card in enumerate(book)}
    return came_from(ends, [place for place in watched if place not in past])


def come_past(book, watched, past):
    """Return the places to which the watched folk can come past the list, ascending."""
    check_book(book)
    check_list(len(book), watched)
    check_list(len(book), past)
    if not 1 <= len(past) <= 2:
        raise BadNumber(len(past))
    return sorted(reach_past(book, watched, past))
