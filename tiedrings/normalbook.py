"""The normal book: the book that all books which are alike for watched folk have in common."""

from tiedrings.cards import check_book, check_list
from tiedrings.pairtable import table_rows


def is_next(entry, left, pairs):
    """Tell whether no entry that is left stands ahead of this one in a pair."""
    return not any([(other, entry) in pairs for other in left])


def normal_card(live, pairs):
    """Return the live entries in the least order that keeps the pairs."""
    card = []
    left = list(live)
    while left:
        entry = [item for item in left if is_next(item, left, pairs)][0]
        card.append(entry)
        left.remove(entry)
    return card


def normal_book(book, watched):
    """Return the normal book for the watched folk."""
    check_book(book)
    check_list(len(book), watched)
    return [normal_card(live, pairs) for live, pairs in table_rows(book, watched)]
