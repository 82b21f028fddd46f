from tests.helpers import (
    Case, all_books, chain_nest, deep_nest, orders_of_each, plain_stands, round_nest, some_books,
    some_nests,
)
from tiedrings.errors import BadBook, BadPlace, BadSize
from tiedrings.feeding import least_shutting
from tiedrings.fewest import fewest_shuttings
from tiedrings.nestcards import cards_of

TORN = [[1, 2, 3], [0, 3, 2], [3, 0, 1], [2, 0, 1]]


def fewest_by_orders(book):
    """For each place and goal the length of a shortest order among all."""
    fewest = {}
    for orders in orders_of_each(len(book)):
        for order in orders:
            for place, goal in enumerate(plain_stands(book, order)):
                if goal != -1:
                    fewest.setdefault((place, goal), len(order))
    return fewest


class FewestTest(Case):
    def told(self, book, place, goal):
        """The number told, after the order told has been shown to lead to the goal."""
        answer = fewest_shuttings(book, place, goal)
        if answer is None:
            return None
        number, order = answer
        self.assertEqual(len(order), number)
        self.assertEqual(len(set(order)), number)
        self.assertLessEqual(set(order), set(range(len(book))))
        self.assertEqual(plain_stands(book, order)[place], goal)
        return number

    def test_small_books(self):
        books = [x for n in (1, 2, 3) for x in all_books(n)]
        for book in books + some_books(4, 60, 1) + some_books(5, 12, 2) + [TORN]:
            fewest = fewest_by_orders(book)
            for place in range(len(book)):
                for goal in range(len(book)):
                    self.assertEqual(
                        self.told(book, place, goal), fewest.get((place, goal)), (book, place, goal))

    def test_books_of_nests(self):
        for nest in some_nests(8, 12, 3) + [deep_nest(8), round_nest(8), chain_nest(8)]:
            for place in range(8):
                for goal in range(8):
                    least = least_shutting(nest, place, goal)
                    wanted = None if least is None else len(least)
                    self.assertEqual(self.told(cards_of(nest), place, goal), wanted)

    def test_by_hand(self):
        self.assertEqual(fewest_shuttings(TORN, 0, 0), (0, []))
        self.assertEqual(fewest_shuttings(TORN, 0, 1), (1, [0]))
        self.assertEqual(self.told(TORN, 0, 3), 2)
        self.assertIsNone(fewest_shuttings([[1], []], 1, 0))
        self.assertIsNone(fewest_shuttings([[], []], 0, 1))
        self.assertEqual(fewest_shuttings([[]], 0, 0), (0, []))
        # Over 1 it takes three shuttings, over 3 only two: first 1, then the place itself.
        self.assertEqual(self.told([[1, 3], [2], [], [4], []], 0, 3), 2)

    def test_eight_places(self):
        for book in some_books(8, 4, 4):
            for goal in range(8):
                self.told(book, 0, goal)
        self.assertEqual(self.told(cards_of(chain_nest(8)), 7, 0), 7)

    def test_refuses(self):
        nine = [[] for _ in range(9)]
        self.refuses(BadBook, {"place": 8}, fewest_shuttings, nine[:8] + [[8]], 99, 99)
        self.refuses(BadBook, {"place": -1}, fewest_shuttings, [[] for _ in range(17)], 99, 99)
        self.refuses(BadSize, {"size": 9}, fewest_shuttings, nine, 99, 99)
        self.refuses(BadSize, {"size": 16}, fewest_shuttings, [[] for _ in range(16)], 0, 0)
        self.refuses(BadPlace, {"place": 8}, fewest_shuttings, nine[:8], 8, -1)
        self.refuses(BadPlace, {"place": -1}, fewest_shuttings, nine[:8], 7, -1)
        self.refuses(BadPlace, {"place": 4}, fewest_shuttings, TORN, 0, 4)
