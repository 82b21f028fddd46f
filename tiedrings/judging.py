"""Judging a book."""

from tiedrings.faults import first_fault
from tiedrings.finishing import agreeing_nest
from tiedrings.tying import tie
from tiedrings.verdicts import Free, TornBook
from tiedrings.witnesses import crowds_of_fault, orders_of_fault


def judge(book):
    """Return the verdict on the book, with what shows it."""
    fault = first_fault(book)
    if fault is None:
        return Free(tie(book))
    entry, place = fault
    orders = orders_of_fault(book, fault)
    crowds = crowds_of_fault(book, fault)
    return TornBook(entry, place, orders, crowds, agreeing_nest(book, entry + 1))
