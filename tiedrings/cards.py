"""Books of cards, and the checks of sizes, places and books that every module uses."""

from tiedrings.errors import BadBook, BadNumber, BadPlace, BadSize

HOME = -1
MOST = 16


def check_size(size):
    """Refuse what is no number of places."""
    if not 1 <= size <= MOST:
        raise BadSize(size)


def is_place(size, place):
    """Tell whether the integer is a place of a street with `size` places."""
    return 0 <= place < size


def check_place(size, place):
    """Refuse what is no place of the street."""
    if not is_place(size, place):
        raise BadPlace(place)


def check_end(size, end):
    """Refuse what is neither a place of the street nor HOME."""
    if end != HOME:
        check_place(size, end)


def check_people(size, people):
    """Refuse a list with an entry that is no place; places may be repeated."""
    for place in people:
        check_place(size, place)


def check_list(size, places):
    """Refuse a list with an entry that is no place, or that occurs earlier."""
    for at, place in enumerate(places):
        if not is_place(size, place) or place in places[:at]:
            raise BadPlace(place)


def is_card(size, place, card):
    """Tell whether the list can be the card of the place."""
    for at, entry in enumerate(card):
        if entry == place or not is_place(size, entry) or entry in card[:at]:
            return False
    return True


def check_book(book):
    """Refuse a list that is no book."""
    if not 1 <= len(book) <= MOST:
        raise BadBook(-1)
    for place, card in enumerate(book):
        if not is_card(len(book), place, card):
            raise BadBook(place)


def check_places(size, places):
    """Return the list of places in ascending order."""
    check_size(size)
    check_list(size, places)
    return sorted(places)


def first_not_in(card, shut):
    """Return the first entry of the card that is not shut, or HOME."""
    for entry in card:
        if entry not in shut:
            return entry
    return HOME


def first_open(book, place, shut):
    """Return the first open place of `place`, or HOME."""
    check_book(book)
    check_place(len(book), place)
    check_list(len(book), shut)
    return first_not_in(book[place], shut)


def places_ahead(book, place, goal):
    """Return the place and the entries of its card before `goal`, or None."""
    check_book(book)
    check_place(len(book), place)
    check_place(len(book), goal)
    if goal == place:
        return []
    if goal not in book[place]:
        return None
    return [place] + book[place][:book[place].index(goal)]


def check_entries(book, entries):
    """Refuse a number of entries that is not from 0 to the number of places."""
    if not 0 <= entries <= len(book):
        raise BadNumber(entries)


def shorten_cards(book, entries):
    """Return the book of the first `entries` entries of the cards."""
    check_book(book)
    check_entries(book, entries)
    return [card[:entries] for card in book]


def without_places(book, gone):
    """Return the book without the places that are gone, and the old numbers of the others."""
    check_book(book)
    check_list(len(book), gone)
    kept = [place for place in range(len(book)) if place not in gone]
    if not kept:
        raise BadSize(0)
    number = {old: new for new, old in enumerate(kept)}
    cards = [[number[entry] for entry in book[old] if entry in number] for old in kept]
    return cards, kept


def check_names(size, names):
    """Refuse names that are not `size` unlike places."""
    if len(names) != size:
        raise BadSize(len(names))
    check_list(size, names)


def rename_book(book, names):
    """Return the book in which each place x is called names[x]."""
    check_book(book)
    check_names(len(book), names)
    renamed = [[] for _ in book]
    for place, card in enumerate(book):
        renamed[names[place]] = [names[entry] for entry in card]
    return renamed
