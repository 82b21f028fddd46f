import itertools
import random

from tests.helpers import Case, all_books, all_lists, plain_stands, shuffled, some_books
from tiedrings.crowding import largest_crowd, least_crowd
from tiedrings.errors import BadBook, BadFolk, BadPlace

TORN = [[1, 2, 3], [0, 3, 2], [3, 0, 1], [2, 0, 1]]


class CrowdingTest(Case):
    def crowd(self, book, order, folk, goals):
        return sum(folk[x] for x, end in enumerate(plain_stands(book, order)) if end in goals)

    def told(self, function, book, kept, folk, goals):
        """The number told, after the order told has been shown to lead to it."""
        number, order = function(book, kept, folk=folk, goals=goals)
        self.assertEqual(sorted(order), [x for x in range(len(book)) if x not in kept])
        self.assertEqual(self.crowd(book, order, folk, goals), number)
        return number

    def check(self, book, kept, folk):
        others = [place for place in range(len(book)) if place not in kept]
        for goals in all_lists(kept + [-1]):
            crowds = [self.crowd(book, x, folk, goals) for x in itertools.permutations(others)]
            self.assertEqual(self.told(largest_crowd, book, kept, folk, goals), max(crowds))
            self.assertEqual(self.told(least_crowd, book, kept, folk, goals), min(crowds))

    def test_small_books(self):
        rng = random.Random(1)
        books = [x for n in (1, 2, 3) for x in all_books(n)] + some_books(4, 25, 2)
        for book in books + some_books(5, 3, 3) + [TORN]:
            for kept in all_lists(range(len(book))):
                self.check(book, shuffled(kept, rng), [rng.choice([0, 1, 7, 1000]) for _ in book])

    def test_by_hand(self):
        folk = [5, 0, 1000, 1]
        self.assertEqual(largest_crowd(TORN, [2, 3], folk=folk, goals=[2])[0], 1005)
        self.assertEqual(least_crowd(TORN, [2, 3], folk=folk, goals=[2])[0], 1000)
        self.assertEqual(largest_crowd(TORN, [2, 3], folk=folk, goals=[-1])[0], 0)
        self.assertEqual(largest_crowd(TORN, [], folk=folk, goals=[-1])[0], 1006)
        self.assertEqual(least_crowd(TORN, [], folk=folk, goals=[-1])[0], 1006)
        self.assertEqual(least_crowd(TORN, [2, 3], folk=folk, goals=[])[0], 0)
        self.assertEqual(largest_crowd(TORN, [2, 3], folk=folk, goals=[])[0], 0)
        self.assertEqual(largest_crowd(TORN, [0, 1, 2, 3], folk=folk, goals=[0, 3]), (6, []))
        self.assertEqual(least_crowd(TORN, [0, 1, 2, 3], folk=folk, goals=[0, -1, 3]), (6, []))

    def test_sixteen_places(self):
        rng = random.Random(4)
        for book in some_books(16, 20, 5):
            kept = shuffled(range(16), rng)[:rng.randrange(9)]
            folk = [rng.randrange(1001) for _ in book]
            goals = [end for end in kept + [-1] if rng.random() < 0.5]
            most = self.told(largest_crowd, book, kept, folk, goals)
            least = self.told(least_crowd, book, kept, folk, goals)
            rest = [end for end in kept + [-1] if end not in goals]
            self.assertEqual(least + largest_crowd(book, kept, folk=folk, goals=rest)[0], sum(folk))
            self.assertEqual(most + least_crowd(book, kept, folk=folk, goals=rest)[0], sum(folk))
        self.assertEqual(largest_crowd([[]], [], folk=[1000], goals=[-1]), (1000, [0]))
        self.assertEqual(least_crowd([[]], [], folk=[0], goals=[-1]), (0, [0]))
        everybody = [[] for _ in range(16)]
        self.assertEqual(largest_crowd(everybody, [], folk=[1000] * 16, goals=[-1])[0], 16000)

    def test_refuses(self):
        for function in (largest_crowd, least_crowd):
            self.refuses(BadBook, {"place": 0}, function, [[0]], [7], folk=[], goals=[5])
            self.refuses(BadPlace, {"place": 7}, function, [[]], [7], folk=[], goals=[5])
            self.refuses(BadPlace, {"place": 1}, function, TORN, [1, 1], folk=[], goals=[5])
            for folk, place in (
                ([1, 1, 1], -1), ([1, 1, 1, 1, 2000], -1), ([], -1), ([1, -1, 1001, 1], 1),
                ([1001, 1, 1, 1], 0), ([0, 1000, 0, 1001], 3),
            ):
                self.refuses(BadFolk, {"place": place}, function, TORN, [1], folk=folk, goals=[5])
            for goals, goal in (([5], 5), ([1, 0], 0), ([-1, 1, -1], -1), ([1, 1], 1), ([-2], -2)):
                self.refuses(BadPlace, {"place": goal}, function, TORN, [1], folk=[0] * 4, goals=goals)
