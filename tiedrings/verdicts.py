"""Verdicts: what shows that a book or a rule is free or torn."""

from tiedrings.cards import check_book, is_place
from tiedrings.nestcards import cards_of
from tiedrings.rules import check_rule, row_places, ruled_seats, ruled_stands
from tiedrings.shutting import stands_after
from tiedrings.sitting import seats_of
from tiedrings.standing import stands_in


def filled_places(size, seats):
    """Return the places at which somebody sits, ascending."""
    return [place for place in range(size) if place in seats]


def are_places(size, places):
    """Tell whether all entries are places."""
    return all([is_place(size, place) for place in places])


def are_orders(size, orders):
    """Tell whether the two lists are orders of the same places."""
    first, second = orders
    if not are_places(size, first) or len(set(first)) != len(first):
        return False
    return sorted(first) == sorted(second)


def are_crowds(size, crowds):
    """Tell whether the two lists contain the same places, equally often."""
    first, second = crowds
    return are_places(size, first) and sorted(first) == sorted(second)


class Verdict:
    """Says whether a book or a rule is free."""

    def __init__(self, is_free):
        self.is_free = is_free

    def word(self):
        """Return the verdict in one word."""
        return "free" if self.is_free else "torn"


class Free(Verdict):
    """Carries the nest from which the book or the rule is read."""

    def __init__(self, nest):
        super().__init__(True)
        self.nest = nest

    def holds(self, book):
        """Tell whether the book is read from the nest."""
        check_book(book)
        return cards_of(self.nest) == book

    def holds_for_rule(self, rule):
        """Tell whether each row of the rule has the stands of the nest."""
        check_rule(rule)
        size = self.nest.size
        if len(rule) != 1 << size:
            return False
        rows = [stands_in(self.nest, row_places(size, number)) for number in range(len(rule))]
        return rows == rule


class Torn(Verdict):
    """Carries two orders that part the folk of a place, and two crowds that sit apart."""

    def __init__(self, place, orders, crowds):
        super().__init__(False)
        self.place = place
        self.orders = (list(orders[0]), list(orders[1]))
        self.crowds = (list(crowds[0]), list(crowds[1]))

    def fits_street(self, size):
        """Tell whether the signs can be signs on a street with so many places."""
        if not is_place(size, self.place):
            return False
        return are_orders(size, self.orders) and are_crowds(size, self.crowds)

    def holds(self, book):
        """Tell whether the signs show that the book is torn."""
        check_book(book)
        size = len(book)
        if not self.fits_street(size):
            return False
        stands = [stands_after(book, order)[self.place] for order in self.orders]
        seats = [seats_of(book, crowd, [1] * size) for crowd in self.crowds]
        filled = [filled_places(size, row) for row in seats]
        return stands[0] != stands[1] and filled[0] != filled[1]

    def holds_for_rule(self, rule):
        """Tell whether the signs show that the rule is torn."""
        check_rule(rule)
        size = len(rule[0])
        if not self.fits_street(size):
            return False
        stands = [ruled_stands(rule, order)[self.place] for order in self.orders]
        filled = [filled_places(size, ruled_seats(rule, crowd)) for crowd in self.crowds]
        return stands[0] != stands[1] and filled[0] != filled[1]


class TornBook(Torn):
    """Carries besides the entry number of the fault, and a nest that shows it is the least."""

    def __init__(self, entry, place, orders, crowds, nest):
        super().__init__(place, orders, crowds)
        self.entry = entry
        self.nest = nest

    def agrees(self, book):
        """Tell whether the nest has the book's cards as far as the entry number."""
        if self.nest.size != len(book):
            return False
        reach = self.entry + 1
        return [card[:reach] for card in cards_of(self.nest)] == [card[:reach] for card in book]

    def holds(self, book):
        """Tell whether the signs show that the book is torn, and are as short as they can be."""
        if not super().holds(book):
            return False
        if len(self.orders[0]) != self.entry + 2 or len(self.crowds[0]) != self.entry + 3:
            return False
        return self.agrees(book)

    def holds_for_rule(self, rule):
        """Tell whether the signs show that the rule is torn."""
        return super().holds_for_rule(rule)
