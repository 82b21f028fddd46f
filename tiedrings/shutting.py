"""Shutting places one after another, by the cards of a book."""

from tiedrings.cards import check_book, check_list, first_not_in


def send_on(stands, place, goal):
    """Return the stands after all who stand at the place have gone to the goal."""
    return [goal if stand == place else stand for stand in stands]


def stands_after(book, order):
    """Return the stands after the shuttings; nothing is checked."""
    stands = list(range(len(book)))
    for at, place in enumerate(order):
        goal = first_not_in(book[place], order[:at + 1])
        stands = send_on(stands, place, goal)
    return stands


def settle(book, order):
    """Return the stands after the places have been shut in this order."""
    check_book(book)
    check_list(len(book), order)
    return stands_after(book, order)


def settle_steps(book, order):
    """Yield the stands after each shutting."""
    check_book(book)
    check_list(len(book), order)
    for at in range(len(order)):
        yield stands_after(book, order[:at + 1])


def standing_at(stands, goal):
    """Return the places whose folk stand at the goal."""
    return [place for place, stand in enumerate(stands) if stand == goal]
