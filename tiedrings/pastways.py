"""Shortest ways on which folk can be sent past places that stay open."""


def first_of(card, past):
    """Return the first entry of the card that is in the list, or None."""
    for entry in card:
        if entry in past:
            return entry
    return None


def entries_ahead(card, past):
    """Return the entries of the card that stand ahead of all places of the list."""
    ahead = []
    for entry in card:
        if entry in past:
            return ahead
        ahead.append(entry)
    return ahead


def ways_past(book, starts, past):
    """Return a shortest way to each place that is reached past the list; nothing is checked.

    The way to a place is the row of places from a start to it, with both ends.
    """
    reached = [start for start in starts if start not in past]
    ways = {start: [start] for start in reached}
    at = 0
    while at < len(reached):
        place = reached[at]
        for entry in entries_ahead(book[place], past):
            if entry not in ways:
                ways[entry] = ways[place] + [entry]
                reached.append(entry)
        at += 1
    return ways
