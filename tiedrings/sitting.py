"""People who come one after another and sit down, by the cards of a book."""

from tiedrings.cards import HOME, check_book, check_people, first_not_in
from tiedrings.rooming import check_rooms, count_wishes


def seats_of(book, wishes, rooms):
    """Return where the people sit; nothing is checked."""
    free = list(rooms)
    seats = []
    for wish in wishes:
        full = [place for place, number in enumerate(free) if number == 0]
        seat = first_not_in([wish] + book[wish], full)
        if seat != HOME:
            free[seat] -= 1
        seats.append(seat)
    return seats


def seat_people(book, wishes, *, rooms=None):
    """Return the place at which each person sits, or HOME, in the order of coming."""
    check_book(book)
    check_people(len(book), wishes)
    if rooms is None:
        return seats_of(book, wishes, [1] * len(book))
    check_rooms(len(book), rooms)
    return seats_of(book, wishes, rooms)


def count_seated(book, wishes, *, rooms=None):
    """Return the numbers of people at each place after all have come."""
    seats = seat_people(book, wishes, rooms=rooms)
    return count_wishes(len(book), [seat for seat in seats if seat != HOME])
