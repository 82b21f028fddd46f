"""Bringing folk to goals, all at once."""

from tiedrings.arrows import arrow_ends, came_from, check_kept, ends_by_place
from tiedrings.cards import HOME, check_list
from tiedrings.errors import BadPlace


def check_goals(kept, goals):
    """Refuse goals that are neither kept nor HOME, or that occur earlier."""
    for at, goal in enumerate(goals):
        if (goal != HOME and goal not in kept) or goal in goals[:at]:
            raise BadPlace(goal)


def turned_arrows(book, kept):
    """Return for each end the places from which an arrow leads to it."""
    turned = {}
    for place, ends in enumerate(arrow_ends(book, kept)):
        for end in ends:
            turned.setdefault(end, []).append(place)
    return turned


def hopeful_places(book, kept, goals):
    """Return the hopeful places, those with shorter ways to a goal first; nothing is checked."""
    return [place for place in came_from(turned_arrows(book, kept), goals) if place not in goals]


def gathering_order(book, kept, goals):
    """Return the order in which to shut all that is not kept; nothing is checked."""
    near = hopeful_places(book, kept, goals)
    others = [place for place in range(len(book)) if place not in kept and place not in near]
    return others + list(reversed(near))


def hopeful(book, kept, *, goals):
    """Return the hopeful places, ascending."""
    check_kept(book, kept)
    check_goals(kept, goals)
    return sorted(hopeful_places(book, kept, goals))


def gather(book, kept, *, goals):
    """Return an order after which the folk of all hopeful places are at goals."""
    check_kept(book, kept)
    check_goals(kept, goals)
    return gathering_order(book, kept, goals)


def together(book, kept, first, *others):
    """Return the ends at which the folk of all these places can be together, HOME first."""
    places = [first] + list(others)
    check_kept(book, kept)
    check_list(len(book), places)
    by_place = ends_by_place(book, kept)
    return [end for end in by_place[first] if all([end in by_place[place] for place in others])]
