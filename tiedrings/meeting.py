"""Where folk can meet, and how few places must be shut for it."""

from tiedrings.cards import check_list, check_place
from tiedrings.feeding import least_lists


def meet_there(nest, places, goal):
    """Return the least list after which the folk of all the places stand at the goal, or None."""
    lists = least_lists(nest, goal)
    needed = [lists[place] for place in places]
    if None in needed:
        return None
    return sorted({place for shut in needed for place in shut})


def meet(nest, first, *others, meet_at=None):
    """Return the goal where the folk of the places meet soonest, and the least list for it."""
    places = [first] + list(others)
    check_list(nest.size, places)
    goals = list(range(nest.size))
    if meet_at is not None:
        check_place(nest.size, meet_at)
        goals = [meet_at]
    best = None
    for goal in goals:
        shut = meet_there(nest, places, goal)
        if shut is not None and (best is None or len(shut) < len(best[1])):
            best = (goal, shut)
    return best
