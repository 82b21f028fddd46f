import itertools

from tests.helpers import Case, all_books, all_lists, some_books
from tiedrings.errors import BadBook, BadPlace
from tiedrings.normalbook import normal_book
from tiedrings.pairtable import pair_table
from tiedrings.parting import are_alike

TORN = [[1, 2, 3], [0, 3, 2], [3, 0, 1], [2, 0, 1]]


def least_card(live, pairs):
    """The least order of the live entries that keeps all pairs, by trying all orders."""
    for card in itertools.permutations(sorted(live)):
        if all(card.index(a) < card.index(b) for a, b in pairs):
            return list(card)
    return None


class NormalbookTest(Case):
    def check(self, book, watched):
        wanted = [least_card(live, pairs) for live, pairs in pair_table(book, watched)]
        normal = normal_book(book, watched)
        self.assertEqual(normal, wanted, (book, watched))
        self.assertEqual(normal_book(normal, watched), normal)
        self.assertTrue(are_alike(book, normal, watched))

    def test_small_books(self):
        books = [x for n in (1, 2, 3) for x in all_books(n)] + some_books(4, 40, 1)
        for book in books + some_books(5, 10, 2):
            for watched in all_lists(range(len(book))):
                self.check(book, watched)

    def test_greater_books(self):
        for book in some_books(7, 6, 3):
            for watched in ([3], [6, 0], [1, 2, 5]):
                self.check(book, watched)

    def test_everybody_or_nobody_watched(self):
        for book in list(all_books(3)) + some_books(16, 5, 4):
            everybody = list(reversed(range(len(book))))
            self.assertEqual(normal_book(book, everybody), book)
            self.assertEqual(normal_book(book, []), [[] for _ in book])

    def test_by_hand(self):
        self.assertEqual(normal_book([[1, 2], [2, 0], [0, 1]], [0]), [[1, 2], [2], []])
        # The folk of 0 come to 1 while 3 is open, or only after it is shut.
        self.assertEqual(normal_book([[1, 3, 2], [3, 2], [], []], [0]), [[1, 3, 2], [3, 2], [], []])
        self.assertEqual(normal_book([[3, 1, 2], [3, 2], [], []], [0]), [[3, 1, 2], [2], [], []])
        # Watched folk come to 4 past 3 and past 2, but not past both, so these may change places.
        book = [[3], [2], [4], [4], [3, 2]]
        self.assertEqual(normal_book(book, [0, 1]), [[3], [2], [4], [4], [2, 3]])
        self.assertEqual(normal_book(book, [0, 1, 4]), book)
        self.assertEqual(normal_book([[]], [0]), [[]])

    def test_refuses(self):
        self.refuses(BadBook, {"place": 0}, normal_book, [[0], [1]], [9])
        self.refuses(BadPlace, {"place": 4}, normal_book, TORN, [4, -1])
        self.refuses(BadPlace, {"place": 0}, normal_book, TORN, [0, 0])
