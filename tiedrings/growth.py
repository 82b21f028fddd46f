"""Further people with one wish, who come after a crowd."""

from tiedrings.cards import HOME, check_place
from tiedrings.chances import check_person
from tiedrings.flows import seated_in
from tiedrings.nestcards import card_of


def rooms_left(nest, rooms, wishes, wish):
    """Return pairs of a place and its free rooms, in the order in which the wish fills them."""
    seated = seated_in(nest, rooms, wishes)
    row = [wish] + card_of(nest, wish)
    return [(place, rooms[place] - seated[place]) for place in row]


def next_seat(nest, rooms, wishes, wish):
    """Return where the next person with the wish sits, or HOME."""
    check_person(nest, rooms, wishes, wish)
    for place, number in rooms_left(nest, rooms, wishes, wish):
        if number > 0:
            return place
    return HOME


def seats_left(nest, rooms, wishes, wish):
    """Return how many further people with the wish find a seat."""
    check_person(nest, rooms, wishes, wish)
    return sum([number for _, number in rooms_left(nest, rooms, wishes, wish)])


def until_full(nest, rooms, wishes, wish, goal):
    """Return after how many further people with the wish the goal is full, or None."""
    check_person(nest, rooms, wishes, wish)
    check_place(nest.size, goal)
    if seated_in(nest, rooms, wishes)[goal] == rooms[goal]:
        return 0
    further = 0
    for place, number in rooms_left(nest, rooms, wishes, wish):
        further += number
        if place == goal:
            return further
    return None
