"""Rooms, and wishes that are counted for each place."""

from tiedrings.cards import check_people, check_size
from tiedrings.errors import BadRooms, BadWishes

MOST_PEOPLE = 30


def first_wrong(size, numbers, most):
    """Return the first place whose number is not from 0 to `most`; -1 for a wrong length; or None."""
    if len(numbers) != size:
        return -1
    for place, number in enumerate(numbers):
        if not 0 <= number <= most:
            return place
    return None


def check_rooms(size, rooms):
    """Refuse what are no rooms of `size` places."""
    check_size(size)
    wrong = first_wrong(size, rooms, MOST_PEOPLE)
    if wrong is not None:
        raise BadRooms(wrong)


def check_wishes(size, wishes):
    """Refuse what are no counted wishes of `size` places."""
    check_size(size)
    wrong = first_wrong(size, wishes, MOST_PEOPLE)
    if wrong is not None:
        raise BadWishes(wrong)


def spread_wishes(wishes):
    """Return the list in which each place x stands wishes[x] times, ascending."""
    people = []
    for place, number in enumerate(wishes):
        people.extend([place] * number)
    return people


def count_wishes(size, people):
    """Return how often each place stands in the list."""
    check_size(size)
    check_people(size, people)
    return [people.count(place) for place in range(size)]
