"""Entries that no watched folk ever need."""

from tiedrings.cards import check_book, check_list, is_place
from tiedrings.errors import BadNumber
from tiedrings.pairtable import live_rows


def needless_entries(book, watched):
    """Return the pairs of a place and a needless entry of its card, ascending."""
    check_book(book)
    check_list(len(book), watched)
    live = live_rows(book, watched)
    return [
        (place, entry) for place, card in enumerate(book)
        for entry in sorted(card) if entry not in live[place]
    ]


def check_struck(book, entries):
    """Refuse a pair that is no place and entry of its card, or that occurs earlier."""
    for at, pair in enumerate(entries):
        place, entry = pair
        if not is_place(len(book), place) or entry not in book[place] or pair in entries[:at]:
            raise BadNumber(at)


def strike(book, entries):
    """Return the book without these entries, pairs of a place and an entry."""
    check_book(book)
    check_struck(book, entries)
    return [
        [entry for entry in card if (place, entry) not in entries]
        for place, card in enumerate(book)
    ]
