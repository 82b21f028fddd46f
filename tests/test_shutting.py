import itertools

from tests.helpers import Case, all_books, plain_stands, some_books
from tiedrings.errors import BadBook, BadPlace
from tiedrings.shutting import settle, settle_steps, standing_at

BOOK = [[1, 2, 3], [0, 3, 2], [3, 0, 1], [2, 0, 1]]


class ShuttingTest(Case):
    def test_example(self):
        self.assertEqual(settle(BOOK, [1, 0]), [2, 2, 2, 3])
        self.assertEqual(settle(BOOK, [0, 1]), [3, 3, 2, 3])

    def test_edges(self):
        self.assertEqual(settle([[]], []), [0])
        self.assertEqual(settle([[]], [0]), [-1])
        self.assertEqual(settle(BOOK, []), [0, 1, 2, 3])
        self.assertEqual(settle(BOOK, [3, 1, 0, 2]), [-1, -1, -1, -1])
        self.assertEqual(settle([[] for _ in range(16)], [15]), list(range(15)) + [-1])
        around = [[(x + 1) % 16] for x in range(16)]
        self.assertEqual(settle(around, list(range(15))), [15] * 16)

    def test_those_at_home_stay(self):
        self.assertEqual(settle([[], [0], []], [0, 1, 2]), [-1, -1, -1])

    def test_against_walking(self):
        for book in list(all_books(3)) + some_books(6, 20, 2):
            for order in itertools.permutations(range(len(book))):
                for length in (1, 2, len(book)):
                    short = list(order[:length])
                    self.assertEqual(settle(book, short), plain_stands(book, short))

    def test_steps(self):
        for book in some_books(5, 20, 4):
            order = [3, 0, 4, 1, 2]
            wanted = [plain_stands(book, order[:k]) for k in range(1, 6)]
            self.assertEqual(list(settle_steps(book, order)), wanted)
        self.assertEqual(list(settle_steps(BOOK, [])), [])
        self.assertTrue(hasattr(settle_steps(BOOK, []), "__next__"))

    def test_steps_yield_new_lists(self):
        steps = []
        for stands in settle_steps(BOOK, [1, 0, 3]):
            steps.append(list(stands))
            stands[:] = [9, 9, 9, 9]
        self.assertEqual(steps, [plain_stands(BOOK, [1, 0, 3][:k]) for k in (1, 2, 3)])

    def test_refuses(self):
        for function in (settle, settle_steps):
            self.refuses(BadBook, {"place": -1}, function, [], [0])
            self.refuses(BadBook, {"place": 0}, function, [[3], []], [0, 0])
            self.refuses(BadPlace, {"place": 4}, function, BOOK, [0, 4, 0])
            self.refuses(BadPlace, {"place": 0}, function, BOOK, [0, 1, 0, 4])
            self.refuses(BadPlace, {"place": -1}, function, BOOK, [-1])

    def test_steps_refuse_when_first_iterated(self):
        steps = settle_steps([], [99])
        with self.assertRaises(BadBook):
            next(steps)
        steps = settle_steps(BOOK, [0, 1, 0])
        with self.assertRaises(BadPlace):
            next(steps)

    def test_standing_at(self):
        self.assertEqual(standing_at([2, -1, 2, 3], 2), [0, 2])
        self.assertEqual(standing_at([2, -1, 2, 3], -1), [1])
        self.assertEqual(standing_at([2, -1, 2, 3], 0), [])
        self.assertEqual(standing_at([], 5), [])
        self.assertEqual(standing_at([77, -8, 77], 77), [0, 2])
        self.assertEqual(standing_at([77, -8] * 20, -8), list(range(1, 40, 2)))
