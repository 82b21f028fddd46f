"""The least signs that show that a book is torn."""

from tiedrings.faults import first_fault


def orders_of_fault(book, fault):
    """Return the parting orders of the fault."""
    entry, place = fault
    card = book[place]
    before = card[:entry]
    return before + [card[entry], place], before + [place, card[entry]]


def crowds_of_fault(book, fault):
    """Return the parting crowds of the fault."""
    entry, place = fault
    before = [place] * (entry + 1)
    goal = book[place][entry]
    return before + [place, goal], before + [goal, place]


def parting_orders(book):
    """Return the pair of parting orders, or None if the book is free."""
    fault = first_fault(book)
    if fault is None:
        return None
    return orders_of_fault(book, fault)


def parting_crowds(book):
    """Return the pair of parting crowds, or None if the book is free."""
    fault = first_fault(book)
    if fault is None:
        return None
    return crowds_of_fault(book, fault)


def least_signs(book):
    """Return the least numbers of shuttings and of people that show a torn book, or None."""
    fault = first_fault(book)
    if fault is None:
        return None
    return fault[0] + 2, fault[0] + 3
