"""Arrows in any book: where folk can go while some places are kept open."""

from tiedrings.cards import HOME, check_book, check_list, check_place


def check_kept(book, kept):
    """Refuse what is no book, or no list of places of it."""
    check_book(book)
    check_list(len(book), kept)


def card_until(card, kept):
    """Return the card up to and with its first kept entry, or, without one, the card and HOME."""
    for at, entry in enumerate(card):
        if entry in kept:
            return card[:at + 1]
    return card + [HOME]


def arrow_ends(book, kept):
    """Return the ends of the arrows from each place; nothing is checked."""
    return [[] if place in kept else card_until(card, kept) for place, card in enumerate(book)]


def came_from(ends, starts):
    """Return for all that is reached from the starts what stands before it on a shortest way.

    `ends` tells the ends of the arrows; what is missing there has none. The starts have None, and
    those with shorter ways come first.
    """
    before = {start: None for start in starts}
    layer = list(starts)
    while layer:
        reached = []
        for here in layer:
            for end in ends.get(here, []):
                if end not in before:
                    before[end] = here
                    reached.append(end)
        layer = reached
    return before


def arrows(book, kept):
    """Return for each place the ends of its arrows."""
    check_kept(book, kept)
    return arrow_ends(book, kept)


def ends_from(ends, kept, place):
    """Return the possible ends of the place, ascending; nothing is checked."""
    reached = came_from(ends, [place])
    return sorted([end for end in reached if end == HOME or end in kept])


def ends_by_place(book, kept):
    """Return the possible ends of each place; nothing is checked."""
    ends = {place: row for place, row in enumerate(arrow_ends(book, kept))}
    return [ends_from(ends, kept, place) for place in range(len(book))]


def possible_ends(book, kept, place):
    """Return the possible ends of the place, HOME first."""
    check_kept(book, kept)
    check_place(len(book), place)
    return ends_by_place(book, kept)[place]


def free_at(book, kept):
    """Tell whether every place has just one possible end."""
    check_kept(book, kept)
    return all([len(ends) == 1 for ends in ends_by_place(book, kept)])
