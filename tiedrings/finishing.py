"""The nest that agrees with the first entries of a book."""

from tiedrings.cards import check_book, check_entries
from tiedrings.errors import NotTied
from tiedrings.faults import first_fault
from tiedrings.tying import tie_cards


def agreeing_nest(book, entries):
    """Return the nest whose cards agree with the book in the first `entries` entries."""
    check_book(book)
    check_entries(book, entries)
    fault = first_fault(book)
    if fault is not None and fault[0] + 2 <= entries:
        raise NotTied(fault[0], fault[1])
    return tie_cards(book, entries)
