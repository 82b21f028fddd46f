import itertools

from tests.helpers import (
    Case, all_books, all_lists, chain_nest, deep_nest, plain_stands, some_books,
)
from tiedrings.errors import BadBook, BadPlace
from tiedrings.ever import ever_at, way_there
from tiedrings.nestcards import cards_of

TORN = [[1, 2, 3], [0, 3, 2], [3, 0, 1], [2, 0, 1]]


def seen_at(book, kept):
    """For each kept place, whose folk stand there after some order of places that are not kept."""
    others = [place for place in range(len(book)) if place not in kept]
    seen = {goal: set() for goal in kept}
    for length in range(len(others) + 1):
        for order in itertools.permutations(others, length):
            for place, stand in enumerate(plain_stands(book, order)):
                if stand in seen:
                    seen[stand].add(place)
    return seen


class EverTest(Case):
    def check_ways(self, book, kept, goal):
        there = ever_at(book, kept, goal)
        for place in range(len(book)):
            order = way_there(book, kept, goal, place)
            if place not in there:
                self.assertIsNone(order)
                continue
            self.assertEqual(len(set(order)), len(order))
            self.assertFalse(set(order) & set(kept))
            self.assertEqual(plain_stands(book, order)[place], goal)
        self.assertEqual(way_there(book, kept, goal, goal), [])
        return there

    def test_small_books(self):
        books = [x for n in (1, 2, 3) for x in all_books(n)]
        for book in books + some_books(4, 30, 1) + some_books(5, 4, 2) + [TORN]:
            for kept in all_lists(range(len(book))):
                for goal, places in seen_at(book, kept).items():
                    self.assertEqual(self.check_ways(book, kept, goal), sorted(places))

    def test_by_hand(self):
        self.assertEqual(ever_at(TORN, [2, 3], 2), [0, 1, 2])
        self.assertEqual(ever_at(TORN, [2, 3], 3), [0, 1, 3])
        self.assertEqual(ever_at(TORN, [0, 1, 2, 3], 3), [3])
        self.assertEqual(ever_at([[1], [], []], [2], 2), [2])
        self.assertEqual(ever_at([[]], [0], 0), [0])
        self.assertIsNone(way_there(TORN, [2, 3], 2, 3))
        self.assertIsNone(way_there([[1], [], []], [2], 2, 0))

    def test_sixteen_places(self):
        for book in some_books(16, 20, 3):
            for kept in ([4], [4, 0, 9], [15, 4, 1, 2, 7]):
                self.check_ways(book, kept, 4)
        for nest in (deep_nest(16), chain_nest(16)):
            self.assertEqual(self.check_ways(cards_of(nest), [0], 0), list(range(16)))

    def test_refuses(self):
        for function, more in ((ever_at, ()), (way_there, (9,))):
            self.refuses(BadBook, {"place": 1}, function, [[], [1]], [9], 9, *more)
            self.refuses(BadPlace, {"place": 4}, function, TORN, [3, 4], 9, *more)
            self.refuses(BadPlace, {"place": 3}, function, TORN, [3, 3], 9, *more)
            for goal in (0, 4, -1):
                self.refuses(BadPlace, {"place": goal}, function, TORN, [3, 1], goal, *more)
            self.refuses(BadPlace, {"place": 0}, function, TORN, [], 0, *more)
        for place in (4, -1):
            self.refuses(BadPlace, {"place": place}, way_there, TORN, [3, 1], 3, place)
