import itertools

from tests.helpers import (
    Case, all_books, orders_of_each, plain_seats, plain_stands, some_books, some_nests,
)
from tiedrings.errors import BadBook
from tiedrings.faults import first_fault
from tiedrings.nestcards import cards_of
from tiedrings.witnesses import least_signs, parting_crowds, parting_orders

BOOK = [[1, 2, 3], [0, 3, 2], [3, 0, 1], [2, 0, 1]]
LATE = [[1, 2, 3, 4], [0, 2, 3, 4], [4], [], []]


def filled(book, wishes):
    return {seat for seat in plain_seats(book, wishes, [1] * len(book)) if seat != -1}


def least_by_orders(book):
    """The fewest shuttings that part somebody, or None."""
    for orders in orders_of_each(len(book)):
        if len({tuple(plain_stands(book, order)) for order in orders}) > 1:
            return len(orders[0])
    return None


def least_by_crowds(book, most):
    """The fewest people, at most this many, who sit apart, or None."""
    for number in range(most + 1):
        for crowd in itertools.combinations_with_replacement(range(len(book)), number):
            ways = set(itertools.permutations(crowd))
            if len({frozenset(filled(book, wishes)) for wishes in ways}) > 1:
                return number
    return None


class WitnessTest(Case):
    def test_examples(self):
        self.assertEqual(parting_orders(BOOK), ([1, 0], [0, 1]))
        self.assertEqual(parting_crowds(BOOK), ([0, 0, 1], [0, 1, 0]))
        self.assertEqual(least_signs(BOOK), (2, 3))
        self.assertEqual(parting_orders(LATE), ([1, 2, 0], [1, 0, 2]))
        self.assertEqual(parting_crowds(LATE), ([0, 0, 0, 2], [0, 0, 2, 0]))
        self.assertEqual(least_signs(LATE), (3, 4))

    def test_free_books(self):
        for book in [[[]], [[1], [0]], [[] for _ in range(16)]] + [
                cards_of(nest) for nest in some_nests(16, 5, 1)]:
            self.assertIsNone(parting_orders(book))
            self.assertIsNone(parting_crowds(book))
            self.assertIsNone(least_signs(book))

    def check_torn(self, book):
        entry, place = first_fault(book)
        goal = book[place][entry]
        before = book[place][:entry]
        orders, crowds = parting_orders(book), parting_crowds(book)
        self.assertEqual(orders, (before + [goal, place], before + [place, goal]))
        begin = [place] * (entry + 1)
        self.assertEqual(crowds, (begin + [place, goal], begin + [goal, place]))
        ends = [plain_stands(book, order)[place] for order in orders]
        self.assertNotEqual(ends[0], ends[1])
        self.assertNotEqual(filled(book, crowds[0]), filled(book, crowds[1]))
        self.assertEqual(least_signs(book), (entry + 2, entry + 3))
        self.assertLessEqual(entry + 3, len(book))

    def test_signs_hold(self):
        for book in list(all_books(3)) + some_books(6, 200, 2) + some_books(16, 30, 3):
            if first_fault(book) is None:
                self.assertIsNone(parting_orders(book))
            else:
                self.check_torn(book)

    def test_signs_are_the_least(self):
        late = [[1, 2, 3], [2, 0, 3], [0, 1, 3], [0, 2, 1]]
        for book in list(all_books(3)) + some_books(4, 60, 4) + [LATE, late]:
            signs = least_signs(book)
            if signs is None:
                self.assertIsNone(least_by_orders(book))
                self.assertIsNone(least_by_crowds(book, 4))
            else:
                self.assertEqual((least_by_orders(book), least_by_crowds(book, signs[1])), signs)

    def test_refuses(self):
        for function in (parting_orders, parting_crowds, least_signs):
            self.refuses(BadBook, {"place": -1}, function, [])
            self.refuses(BadBook, {"place": 1}, function, [[1], [2]])
