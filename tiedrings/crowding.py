"""How many people can be at goals in the end."""

from tiedrings.arrows import check_kept
from tiedrings.cards import HOME
from tiedrings.errors import BadFolk
from tiedrings.gathering import check_goals, gathering_order, hopeful_places
from tiedrings.rooming import first_wrong

MOST_FOLK = 1000


def check_folk(size, folk):
    """Refuse what are no folk numbers of `size` places."""
    wrong = first_wrong(size, folk, MOST_FOLK)
    if wrong is not None:
        raise BadFolk(wrong)


def check_all(book, kept, folk, goals):
    """Refuse the first wrong argument."""
    check_kept(book, kept)
    check_folk(len(book), folk)
    check_goals(kept, goals)


def most_at(book, kept, folk, goals):
    """Return the largest number of people who can be at the goals; nothing is checked."""
    there = [goal for goal in goals if goal != HOME] + hopeful_places(book, kept, goals)
    return sum([folk[place] for place in there])


def largest_crowd(book, kept, *, folk, goals):
    """Return the largest number of people at the goals in the end, and an order for it."""
    check_all(book, kept, folk, goals)
    return most_at(book, kept, folk, goals), gathering_order(book, kept, goals)


def least_crowd(book, kept, *, folk, goals):
    """Return the least number of people at the goals in the end, and an order for it."""
    check_all(book, kept, folk, goals)
    # Whoever is not at a goal in the end is at one of the other ends.
    others = [end for end in kept + [HOME] if end not in goals]
    return sum(folk) - most_at(book, kept, folk, others), gathering_order(book, kept, others)
