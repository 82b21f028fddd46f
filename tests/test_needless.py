from tests.helpers import Case, all_books, all_lists, some_books
from tests.test_parting import rows_of_stands
from tiedrings.errors import BadBook, BadNumber, BadPlace
from tiedrings.needless import needless_entries, strike
from tiedrings.pairtable import pair_table
from tiedrings.parting import are_alike

TORN = [[1, 2, 3], [0, 3, 2], [3, 0, 1], [2, 0, 1]]


def entries_of(book):
    return [(place, entry) for place, card in enumerate(book) for entry in sorted(card)]


class NeedlessTest(Case):
    def check_struck(self, book, watched):
        """Strikes the needless entries all at once and compares with the pair table."""
        live = [row for row, _ in pair_table(book, watched)]
        needless = needless_entries(book, watched)
        self.assertEqual(needless, [
            (place, entry) for place, entry in entries_of(book) if entry not in live[place]])
        self.assertTrue(are_alike(book, strike(book, needless), watched))

    def test_small_books_by_orders(self):
        books = [x for n in (1, 2) for x in all_books(n)] + list(all_books(3))[::4]
        for book in books + some_books(4, 5, 1) + [TORN]:
            rows = rows_of_stands(book)
            without = {pair: rows_of_stands(strike(book, [pair])) for pair in entries_of(book)}
            for watched in all_lists(range(len(book))):
                wanted = [
                    pair for pair in entries_of(book)
                    if all(a[x] == b[x] for a, b in zip(rows, without[pair]) for x in watched)
                ]
                self.assertEqual(needless_entries(book, watched), wanted)
                self.check_struck(book, watched)

    def test_sixteen_places(self):
        for book in some_books(16, 3, 2):
            for watched in ([], [4], [9, 2]):
                self.check_struck(book, watched)
            self.assertEqual(needless_entries(book, []), entries_of(book))
            self.assertEqual(needless_entries(book, list(range(16))), [])

    def test_by_hand(self):
        self.assertEqual(needless_entries([[1, 2], [2, 0], [0, 1]], [0]), [(1, 0), (2, 0), (2, 1)])
        self.assertEqual(needless_entries([[]], [0]), [])
        self.assertEqual(needless_entries([[], [0]], [0]), [(1, 0)])

    def test_strike(self):
        self.assertEqual(strike(TORN, []), TORN)
        self.assertEqual(strike(TORN, [(3, 0), (0, 2), (3, 2)]), [[1, 3], [0, 3, 2], [3, 0, 1], [1]])
        self.assertEqual(strike(TORN, entries_of(TORN)), [[], [], [], []])
        self.assertEqual(strike([[1], [0]], [(1, 0)]), [[1], []])

    def test_refuses(self):
        self.refuses(BadBook, {"place": 1}, needless_entries, [[], [1]], [9])
        self.refuses(BadPlace, {"place": 9}, needless_entries, TORN, [0, 9])
        self.refuses(BadPlace, {"place": 2}, needless_entries, TORN, [2, 2])
        self.refuses(BadBook, {"place": 1}, strike, [[], [1]], [(9, 9)])
        for entries, at in (
            ([(0, 0)], 0), ([(4, 0)], 0), ([(-1, 0)], 0), ([(0, 1), (0, 4)], 1), ([(0, -1)], 0),
            ([(0, 1), (1, 0), (0, 1)], 2), ([(0, 1), (0, 1), (9, 9)], 1),
            ([(0, 1), (1, 2), (2, 0), (16, 0), (0, 1)], 3),
        ):
            self.refuses(BadNumber, {"number": at}, strike, TORN, entries)
        self.refuses(BadNumber, {"number": 0}, strike, [[], [0]], [(0, 1)])
