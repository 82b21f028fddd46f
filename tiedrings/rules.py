"""Rules, which say for each set of shut places where to go on to.

A set of places is a row number here: the bit of value 2 ** x tells of place x.
"""

from tiedrings.cards import HOME, check_book, check_list, check_people, first_not_in, is_place
from tiedrings.errors import BadRule, BadSize
from tiedrings.shutting import send_on

MOST_RULED = 5


def in_row(number, place):
    """Tell whether the place is in the set of the row with this number."""
    return (number >> place) & 1 == 1


def add_to_row(number, place):
    """Return the number of the row whose set has the place, too."""
    return number | (1 << place)


def row_places(size, number):
    """Return the places of the row's set, ascending."""
    return [place for place in range(size) if in_row(number, place)]


def ruled_size(rule):
    """Return for how many places the rule has rows, or None."""
    for size in range(1, MOST_RULED + 1):
        if len(rule) == 1 << size:
            return size
    return None


def is_right(size, number, place, entry):
    """Tell whether the entry of the place can stand in the row."""
    if not in_row(number, place):
        return entry == place
    if entry == HOME:
        return True
    return is_place(size, entry) and not in_row(number, entry)


def is_row(size, number, row):
    """Tell whether the list can be the row with this number."""
    if len(row) != size:
        return False
    return all([is_right(size, number, place, entry) for place, entry in enumerate(row)])


def check_rule(rule):
    """Refuse a list that is no rule."""
    size = ruled_size(rule)
    if size is None:
        raise BadRule(-1)
    for number, row in enumerate(rule):
        if not is_row(size, number, row):
            raise BadRule(number)


def row_of(book, number):
    """Return the row of first open places while the row's set is shut."""
    size = len(book)
    shut = row_places(size, number)
    return [first_not_in(book[x], shut) if in_row(number, x) else x for x in range(size)]


def rule_of(book):
    """Return the rule that reads first open places from the cards."""
    check_book(book)
    if len(book) > MOST_RULED:
        raise BadSize(len(book))
    return [row_of(book, number) for number in range(1 << len(book))]


def ruled_stands(rule, order):
    """Return the stands after the shuttings; nothing is checked."""
    stands = list(rule[0])
    number = 0
    for place in order:
        number = add_to_row(number, place)
        stands = send_on(stands, place, rule[number][place])
    return stands


def settle_rule(rule, order):
    """Return the stands after the places have been shut in this order."""
    check_rule(rule)
    check_list(len(rule[0]), order)
    return ruled_stands(rule, order)


def ruled_seats(rule, wishes):
    """Return where the people sit; nothing is checked."""
    number = 0
    seats = []
    for wish in wishes:
        # The row keeps the places that are not full at themselves, so it also serves these.
        seat = rule[number][wish]
        if seat != HOME:
            number = add_to_row(number, seat)
        seats.append(seat)
    return seats


def seat_by_rule(rule, wishes):
    """Return the place at which each person sits, or HOME, in the order of coming."""
    check_rule(rule)
    check_people(len(rule[0]), wishes)
    return ruled_seats(rule, wishes)


def read_card(rule, place):
    """Return the card of one place by shutting one place after another."""
    card = []
    number = add_to_row(0, place)
    entry = rule[number][place]
    while entry != HOME:
        card.append(entry)
        number = add_to_row(number, entry)
        entry = rule[number][place]
    return card


def read_cards(rule):
    """Return the cards of the rule, a book."""
    check_rule(rule)
    return [read_card(rule, place) for place in range(len(rule[0]))]
