"""The pair table: which entries watched folk can meet, and which of them in which order."""

from itertools import combinations

from tiedrings.cards import check_book, check_list
from tiedrings.openreach import reach_past


def live_rows(book, watched):
    """Return for each place its live entries, ascending; nothing is checked."""
    reached = [reach_past(book, watched, [place]) for place in range(len(book))]
    return [
        sorted([entry for entry in card if place in reached[entry]])
        for place, card in enumerate(book)
    ]


def pair_rows(book, watched):
    """Return for each place its pairs, ascending; nothing is checked."""
    rows = [[] for _ in book]
    for low, high in combinations(range(len(book)), 2):
        for place in reach_past(book, watched, [low, high]):
            pair = [entry for entry in book[place] if entry in (low, high)]
            if len(pair) == 2:
                rows[place].append(tuple(pair))
    return [sorted(pairs) for pairs in rows]


def table_rows(book, watched):
    """Return the rows of the pair table; nothing is checked."""
    return list(zip(live_rows(book, watched), pair_rows(book, watched)))


def pair_table(book, watched):
    """Return for each place its live entries and its pairs, both ascending."""
    check_book(book)
    check_list(len(book), watched)
    return table_rows(book, watched)
