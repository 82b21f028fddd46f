"""Where one more person can end who comes together with a crowd."""

from tiedrings.cards import HOME, check_place
from tiedrings.flows import check_crowd, seated_in
from tiedrings.nestcards import card_of, cards_of
from tiedrings.swallowing import swallowed_in


def ahead_of(row, goal):
    """Return the places of the row before the goal, or all if the goal is none of them."""
    return row[:row.index(goal)] if goal in row else row


def can_end_at(nest, rooms, wishes, row, goal):
    """Tell whether somebody who tries the places of the row in order can sit at this one."""
    if rooms[goal] == 0:
        return False
    seated = swallowed_in(nest, rooms, wishes, goal)
    return all([seated[place] == rooms[place] for place in ahead_of(row, goal)])


def ends_of(nest, rooms, wishes, wish):
    """Return the possible ends of a person with the wish; nothing is checked."""
    row = [wish] + card_of(nest, wish)
    ends = [place for place in row if can_end_at(nest, rooms, wishes, row, place)]
    seated = seated_in(nest, rooms, wishes)
    if all([seated[place] == rooms[place] for place in row]):
        ends.append(HOME)
    return ends


def people_before(cards, rooms, wishes, goal):
    """Return how many with each wish do not vanish when the crowd comes wish by wish."""
    # Without those who vanish at the goal, the others sit where they sit in the whole crowd: what
    # is full then is full, and nobody sits at the goal.
    left = list(rooms)
    before = []
    for wish, number in enumerate(wishes):
        coming = number
        row = [wish] + cards[wish]
        for place in ahead_of(row, goal):
            seated = min(coming, left[place])
            left[place] -= seated
            coming -= seated
        before.append(number - coming if goal in row else number)
    return before


def check_person(nest, rooms, wishes, wish):
    """Refuse a crowd or a wish that is none of the nest."""
    check_crowd(nest, rooms, wishes)
    check_place(nest.size, wish)


def chances(nest, rooms, wishes, wish):
    """Return the possible ends, each with people who come before the person who ends there."""
    check_person(nest, rooms, wishes, wish)
    cards = cards_of(nest)
    ends = ends_of(nest, rooms, wishes, wish)
    return [(end, people_before(cards, rooms, wishes, end)) for end in ends]


def sure_end(nest, rooms, wishes, wish):
    """Return the end if there is only one possible, otherwise None."""
    check_person(nest, rooms, wishes, wish)
    ends = ends_of(nest, rooms, wishes, wish)
    return ends[0] if len(ends) == 1 else None
