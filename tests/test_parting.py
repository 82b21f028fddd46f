import random

from tests.helpers import (
    Case, all_books, all_lists, card_choices, deep_nest, orders_of_each, plain_stands, shuffled,
    some_book, some_books,
)
from tiedrings.errors import BadBook, BadPlace, BadSize
from tiedrings.nestcards import cards_of
from tiedrings.normalbook import normal_book
from tiedrings.parting import are_alike, parting_order

TORN = [[1, 2, 3], [0, 3, 2], [3, 0, 1], [2, 0, 1]]


def rows_of_stands(book):
    """The stands after each order of each list of places."""
    return [plain_stands(book, order) for orders in orders_of_each(len(book)) for order in orders]


def like_book(book, rng):
    """The book with one card changed, or another book."""
    other = [list(card) for card in book]
    if rng.random() < 0.1:
        return some_book(len(book), rng)
    place = rng.randrange(len(book))
    other[place] = rng.choice(card_choices(len(book), place))
    return other


class PartingTest(Case):
    def check_order(self, book, other, watched):
        """Shuts the places of the parting order one after another."""
        order = parting_order(book, other, watched)
        if order is None:
            return False
        self.assertEqual(len(set(order)), len(order))
        for at in range(len(order) + 1):
            stands, others = plain_stands(book, order[:at]), plain_stands(other, order[:at])
            parted = any(stands[place] != others[place] for place in watched)
            self.assertIs(parted, at == len(order), (book, other, watched, order))
        return True

    def check(self, book, other, watched, alike):
        self.assertIs(are_alike(book, other, watched), alike, (book, other, watched))
        self.assertIs(normal_book(book, watched) == normal_book(other, watched), alike)
        self.assertIs(self.check_order(book, other, watched), not alike)

    def test_small_books(self):
        for size, step in ((1, 1), (2, 1), (3, 11)):
            books = list(all_books(size))
            rows = [rows_of_stands(book) for book in books]
            for at, book in list(enumerate(books))[::step]:
                for watched in all_lists(range(size)):
                    for to, other in enumerate(books):
                        alike = all(
                            a[place] == b[place] for a, b in zip(rows[at], rows[to])
                            for place in watched)
                        self.check(book, other, watched, alike)

    def test_four_places(self):
        rng = random.Random(1)
        for book in some_books(4, 60, 2) + [TORN]:
            mine = rows_of_stands(book)
            for other in [like_book(book, rng) for _ in range(8)]:
                rows = rows_of_stands(other)
                for watched in all_lists(range(4)):
                    alike = all(a[x] == b[x] for a, b in zip(mine, rows) for x in watched)
                    self.check(book, other, watched, alike)

    def test_sixteen_places(self):
        rng = random.Random(3)
        for book in some_books(16, 6, 4):
            watched = shuffled(range(16), rng)[:rng.choice([1, 2, 16])]
            normal = normal_book(book, watched)
            self.check(book, normal, watched, True)
            other = [list(reversed(card)) for card in book]
            self.check(book, other, watched, False)
            self.check(other, normal, watched, False)
        # Nobody comes to 15 but from 14, when all others are shut.
        book = [[place + 1] for place in range(15)] + [[]]
        other = [[place + 1] for place in range(14)] + [[], []]
        self.check(book, other, [0], False)
        self.check(book, other, [15], True)

    def test_by_hand(self):
        self.assertIs(are_alike([[1, 2], [2, 0], [0, 1]], [[1, 2], [2], []], [0]), True)
        self.assertIs(are_alike([[1, 2], [2, 0], [0, 1]], [[1, 2], [2], []], [1]), False)
        self.assertIsNone(parting_order(TORN, [[], [], [], []], []))
        self.assertIsNone(parting_order(TORN, TORN, [0, 1, 2, 3]))
        self.assertIsNone(parting_order([[]], [[]], [0]))
        self.assertEqual(parting_order([[1], []], [[], []], [0]), [0])
        nest = cards_of(deep_nest(16))
        self.assertIsNone(parting_order(nest, nest, list(range(16))))

    def test_refuses(self):
        for function in (are_alike, parting_order):
            self.refuses(BadBook, {"place": 1}, function, [[], [1]], [[0]], [9])
            self.refuses(BadBook, {"place": 0}, function, [[]], [[0]], [9])
            self.refuses(BadBook, {"place": -1}, function, TORN, [], [9])
            self.refuses(BadSize, {"size": 1}, function, TORN, [[]], [9])
            self.refuses(BadSize, {"size": 4}, function, [[]], TORN, [9])
            self.refuses(BadPlace, {"place": 4}, function, TORN, TORN, [0, 4, -1])
            self.refuses(BadPlace, {"place": 0}, function, TORN, TORN, [0, 1, 0])
