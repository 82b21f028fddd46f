"""Where a book differs from the books that are read from nests."""

from tiedrings.cards import check_book


def item_after(card, entry):
    """Return the item behind the entry number, or None for the end."""
    if entry + 1 < len(card):
        return card[entry + 1]
    return None


def asked_item(card, passed):
    """Return the first entry that has not been passed, or None for the end."""
    for item in card:
        if item not in passed:
            return item
    return None


def is_fault(book, entry, place):
    """Tell whether the pair is a fault; the card has an entry at this number."""
    card = book[place]
    passed = [place] + card[:entry + 1]
    return item_after(card, entry) != asked_item(book[card[entry]], passed)


def faults_at(book, entry):
    """Return the places with a fault at the entry number, ascending."""
    return [
        place for place, card in enumerate(book)
        if entry < len(card) and is_fault(book, entry, place)
    ]


def first_fault(book):
    """Return the least fault, a pair (entry number, place), or None."""
    check_book(book)
    for entry in range(len(book)):
        places = faults_at(book, entry)
        if places:
            return entry, places[0]
    return None


def list_faults(book):
    """Return all faults, ascending."""
    check_book(book)
    return [(entry, place) for entry in range(len(book)) for place in faults_at(book, entry)]


def unlike_places(row, other):
    """Return the least place in just one row, or else the least two in unlike order, or []."""
    alone = sorted(set(row) ^ set(other))
    if alone:
        return [alone[0]]
    places = sorted(row)
    for low in places:
        for high in places:
            ahead = row.index(low) < row.index(high)
            if low < high and ahead != (other.index(low) < other.index(high)):
                return [low, high]
    return []


def kept_apart(book, place, entry):
    """Return what the rest fault at this entry keeps, or [] if there is none."""
    card = book[place]
    ahead = [place] + card[:entry]
    remaining = [item for item in book[card[entry]] if item not in ahead]
    return unlike_places(card[entry + 1:], remaining)


def first_rest(book, place):
    """Return the entry number of the place's first rest fault and what it keeps, or None."""
    for entry in range(len(book[place])):
        kept = kept_apart(book, place, entry)
        if kept:
            return entry, kept
    return None


def rest_fault(book):
    """Return the first rest fault, a triple (place, entry number, kept), or None."""
    check_book(book)
    for place in range(len(book)):
        rest = first_rest(book, place)
        if rest is not None:
            return place, rest[0], rest[1]
    return None
