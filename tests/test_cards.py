from tests.helpers import Case, all_books, some_books
from tiedrings import cards
from tiedrings.cards import (
    check_book, check_places, first_open, places_ahead, rename_book, shorten_cards, without_places,
)
from tiedrings.errors import BadBook, BadNumber, BadPlace, BadSize

BOOK = [[1, 2, 3], [0, 3, 2], [3, 0, 1], [2]]
WRONG_BOOK = [[1], [1]]


class CheckTest(Case):
    def test_constants(self):
        self.assertEqual((cards.HOME, cards.MOST), (-1, 16))

    def test_good_books(self):
        for book in all_books(3):
            self.assertIsNone(check_book(book))
        for book in some_books(16, 5, 1):
            self.assertIsNone(check_book(book))
        self.assertIsNone(check_book([[]]))
        self.assertIsNone(check_book([[] for _ in range(16)]))

    def test_wrong_numbers_of_cards(self):
        self.refuses(BadBook, {"place": -1}, check_book, [])
        self.refuses(BadBook, {"place": -1}, check_book, [[] for _ in range(17)])
        self.refuses(BadBook, {"place": -1}, check_book, [[99] for _ in range(40)])

    def test_wrong_cards(self):
        for wrong in ([2], [-1], [-2], [10 ** 30], [0, 0], [1], [0, 1], [0, 2], [0, 0, 1]):
            self.refuses(BadBook, {"place": 1}, check_book, [[1], wrong])

    def test_least_wrong_place(self):
        self.refuses(BadBook, {"place": 1}, check_book, [[], [5], [2], [3]])
        self.refuses(BadBook, {"place": 0}, check_book, [[0], [5]])
        self.refuses(BadBook, {"place": 2}, check_book, [[1], [2], [0, 1, 0]])

    def test_check_places(self):
        self.assertEqual(check_places(4, [3, 0, 2]), [0, 2, 3])
        self.assertEqual(check_places(1, [0]), [0])
        self.assertEqual(check_places(16, list(range(15, -1, -1))), list(range(16)))
        self.assertEqual(check_places(5, []), [])

    def test_check_places_refuses(self):
        for size in (0, 17, -1, 100):
            self.refuses(BadSize, {"size": size}, check_places, size, [99])
        self.refuses(BadPlace, {"place": 4}, check_places, 4, [0, 4, -1])
        self.refuses(BadPlace, {"place": -1}, check_places, 4, [0, -1, 4])
        self.refuses(BadPlace, {"place": 0}, check_places, 4, [0, 1, 0, 9])
        self.refuses(BadPlace, {"place": 9}, check_places, 4, [0, 1, 9, 0])


class OpenTest(Case):
    def test_first_open(self):
        self.assertEqual(first_open(BOOK, 0, []), 1)
        self.assertEqual(first_open(BOOK, 0, [1]), 2)
        self.assertEqual(first_open(BOOK, 0, [2, 1]), 3)
        self.assertEqual(first_open(BOOK, 0, [3, 2, 1]), -1)
        self.assertEqual(first_open(BOOK, 0, [0, 2]), 1)
        self.assertEqual(first_open(BOOK, 3, [2]), -1)
        self.assertEqual(first_open([[]], 0, []), -1)

    def test_first_open_refuses_in_order(self):
        self.refuses(BadBook, {"place": 1}, first_open, WRONG_BOOK, 7, [7])
        self.refuses(BadPlace, {"place": 4}, first_open, BOOK, 4, [7])
        self.refuses(BadPlace, {"place": -1}, first_open, BOOK, -1, [7])
        self.refuses(BadPlace, {"place": 7}, first_open, BOOK, 0, [1, 7, 1])
        self.refuses(BadPlace, {"place": 1}, first_open, BOOK, 0, [1, 1, 7])

    def test_places_ahead(self):
        self.assertEqual(places_ahead(BOOK, 0, 1), [0])
        self.assertEqual(places_ahead(BOOK, 0, 3), [0, 1, 2])
        self.assertEqual(places_ahead(BOOK, 0, 0), [])
        self.assertIsNone(places_ahead(BOOK, 3, 1))

    def test_places_ahead_refuses_in_order(self):
        self.refuses(BadBook, {"place": 1}, places_ahead, WRONG_BOOK, 7, 8)
        self.refuses(BadPlace, {"place": 7}, places_ahead, BOOK, 7, 8)
        self.refuses(BadPlace, {"place": 8}, places_ahead, BOOK, 0, 8)
        self.refuses(BadPlace, {"place": -1}, places_ahead, BOOK, 0, -1)


class NewBookTest(Case):
    def test_shorten(self):
        self.assertEqual(shorten_cards(BOOK, 0), [[], [], [], []])
        self.assertEqual(shorten_cards(BOOK, 2), [[1, 2], [0, 3], [3, 0], [2]])
        self.assertEqual(shorten_cards(BOOK, 4), BOOK)
        self.assertEqual(shorten_cards([[]], 1), [[]])

    def test_shorten_refuses(self):
        self.refuses(BadBook, {"place": 1}, shorten_cards, WRONG_BOOK, 9)
        self.refuses(BadNumber, {"number": 5}, shorten_cards, BOOK, 5)
        self.refuses(BadNumber, {"number": -1}, shorten_cards, BOOK, -1)

    def test_without(self):
        self.assertEqual(without_places(BOOK, [1]), ([[1, 2], [2, 0], [1]], [0, 2, 3]))
        self.assertEqual(without_places(BOOK, [2, 0]), ([[1], []], [1, 3]))
        self.assertEqual(without_places(BOOK, []), (BOOK, [0, 1, 2, 3]))
        self.assertEqual(without_places(BOOK, [3, 2, 1]), ([[]], [0]))

    def test_without_refuses(self):
        self.refuses(BadBook, {"place": 1}, without_places, WRONG_BOOK, [9])
        self.refuses(BadPlace, {"place": 9}, without_places, BOOK, [0, 9, 0])
        self.refuses(BadPlace, {"place": 0}, without_places, BOOK, [0, 1, 2, 3, 0])
        self.refuses(BadSize, {"size": 0}, without_places, BOOK, [3, 1, 0, 2])
        self.refuses(BadSize, {"size": 0}, without_places, [[]], [0])

    def test_rename(self):
        self.assertEqual(
            rename_book(BOOK, [2, 0, 3, 1]), [[2, 1, 3], [3], [0, 3, 1], [1, 2, 0]])
        self.assertEqual(rename_book(BOOK, [0, 1, 2, 3]), BOOK)
        self.assertEqual(rename_book([[]], [0]), [[]])

    def test_rename_refuses(self):
        self.refuses(BadBook, {"place": 1}, rename_book, WRONG_BOOK, [])
        self.refuses(BadSize, {"size": 3}, rename_book, BOOK, [9, 9, 9])
        self.refuses(BadSize, {"size": 5}, rename_book, BOOK, [0, 1, 2, 3, 4])
        self.refuses(BadSize, {"size": 0}, rename_book, BOOK, [])
        self.refuses(BadPlace, {"place": 1}, rename_book, BOOK, [0, 1, 1, 4])
        self.refuses(BadPlace, {"place": -1}, rename_book, BOOK, [0, -1, 0, 4])
