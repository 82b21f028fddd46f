import itertools

from tests.helpers import Case, all_books, all_lists, deep_nest, round_nest, some_books
from tests.test_openreach import came_by_orders
from tiedrings.errors import BadBook, BadPlace
from tiedrings.nestcards import cards_of
from tiedrings.openreach import come_past
from tiedrings.pairtable import pair_table

TORN = [[1, 2, 3], [0, 3, 2], [3, 0, 1], [2, 0, 1]]


class PairtableTest(Case):
    def check(self, book, watched, come):
        rows = pair_table(book, watched)
        self.assertEqual(len(rows), len(book))
        for place, card in enumerate(book):
            live = sorted(entry for entry in card if place in come[(entry,)])
            pairs = sorted(
                pair for pair in itertools.combinations(card, 2) if place in come[pair])
            self.assertEqual(rows[place], (live, pairs), (book, watched))
            # What stands in a pair is live.
            self.assertLessEqual({entry for pair in pairs for entry in pair}, set(live))

    def pasts(self, size):
        singles = [(place,) for place in range(size)]
        return singles + list(itertools.permutations(range(size), 2))

    def test_small_books_by_orders(self):
        for book in list(all_books(1)) + list(all_books(2)) + list(all_books(3)) + some_books(4, 15, 1):
            came = {past: came_by_orders(book, past) for past in self.pasts(len(book))}
            for watched in all_lists(range(len(book))):
                come = {
                    past: {stand for place in watched for stand in rows[place]} - set(past)
                    for past, rows in came.items()
                }
                self.check(book, watched, come)

    def test_greater_books(self):
        for book in some_books(16, 2, 2) + [cards_of(deep_nest(16)), cards_of(round_nest(16))]:
            for watched in ([], [3], [9, 0], list(range(16))):
                come = {past: come_past(book, watched, list(past)) for past in self.pasts(16)}
                self.check(book, watched, come)

    def test_by_hand(self):
        self.assertEqual(
            pair_table([[1, 2], [2, 0], [0, 1]], [0]), [([1, 2], [(1, 2)]), ([2], []), ([], [])])
        # The order of 2 and 1 on the card of 0 is the order of the card, not of the numbers.
        self.assertEqual(pair_table([[2, 1], [], []], [0]), [([1, 2], [(2, 1)]), ([], []), ([], [])])
        self.assertEqual(pair_table([[]], [0]), [([], [])])
        self.assertEqual(pair_table(TORN, []), [([], [])] * 4)

    def test_everybody_watched(self):
        for book in some_books(5, 20, 3):
            rows = pair_table(book, [4, 1, 0, 3, 2])
            for card, (live, pairs) in zip(book, rows):
                self.assertEqual(live, sorted(card))
                self.assertEqual(pairs, sorted(itertools.combinations(card, 2)))

    def test_refuses(self):
        self.refuses(BadBook, {"place": 1}, pair_table, [[], [1]], [9])
        self.refuses(BadBook, {"place": -1}, pair_table, [], [])
        self.refuses(BadPlace, {"place": 4}, pair_table, TORN, [1, 4, -1])
        self.refuses(BadPlace, {"place": -1}, pair_table, TORN, [-1])
        self.refuses(BadPlace, {"place": 1}, pair_table, TORN, [1, 2, 1])
