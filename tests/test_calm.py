import itertools

from tests.helpers import (
    Case, all_books, parted_places, plain_stands, some_books, some_nests,
)
from tiedrings.calm import calm_places, is_calm, unrest
from tiedrings.errors import BadBook, BadPlace
from tiedrings.nestcards import cards_of
from tiedrings.openreach import come_past

BOOK = [[1, 2, 3], [0, 3, 2], [3, 0, 1], [2, 0, 1]]


def told_apart(book, place):
    """A list, and a place to which the folk come past it, that tell it is not calm (point 22)."""
    others = [other for other in range(len(book)) if other != place]
    for past in [[a] for a in others] + [list(pair) for pair in itertools.combinations(others, 2)]:
        firsts = [next((entry for entry in card if entry in past), None) for card in book]
        for here in come_past(book, [place], past):
            if firsts[here] != firsts[place]:
                return past, here
    return None


def shortest_way(book, place, goal, past):
    """A shortest way from the place to the goal past the list."""
    ways = [[place]]
    for way in ways:
        if way[-1] == goal:
            return way
        for entry in book[way[-1]]:
            if entry in past:
                break
            if not any(entry in other for other in ways):
                ways.append(way + [entry])
    return None


class CalmTest(Case):
    def test_the_other_way_to_tell(self):
        books = [x for n in (1, 2, 3) for x in all_books(n)]
        for book in books + some_books(4, 200, 5) + some_books(7, 50, 6) + some_books(16, 2, 7):
            for place in range(len(book)):
                told = told_apart(book, place)
                self.assertIs(is_calm(book, place), told is None)
                if told is not None:
                    self.check_told(book, place, *told)

    def check_told(self, book, place, past, goal):
        """The two orders of point 22 part the folk of the place."""
        others = [other for other in range(len(book)) if other not in past]
        way = shortest_way(book, place, goal, past)
        over = [other for other in others if other not in way] + way
        last = [other for other in others if other != place] + [place]
        self.assertNotEqual(plain_stands(book, over)[place], plain_stands(book, last)[place])

    def check_unrest(self, book):
        calm = []
        for place in range(len(book)):
            orders = unrest(book, place)
            self.assertIs(is_calm(book, place), orders is None)
            if orders is None:
                calm.append(place)
                continue
            first, second = orders
            self.assertEqual(sorted(first), sorted(second))
            self.assertEqual(len(set(first)), len(first))
            ends = [plain_stands(book, order)[place] for order in orders]
            self.assertNotEqual(ends[0], ends[1])
        self.assertEqual(calm_places(book), calm)
        return calm

    def check(self, book):
        parted = parted_places(len(book), lambda order: plain_stands(book, order))
        wanted = [place for place in range(len(book)) if place not in parted]
        self.assertEqual(self.check_unrest(book), wanted, book)

    def test_small_books(self):
        for size in (1, 2, 3):
            for book in all_books(size):
                self.check(book)
        for book in some_books(4, 300, 1) + some_books(5, 8, 2):
            self.check(book)

    def test_calm_and_restless_in_one_book(self):
        book = [[1], [2], [], [0, 1, 2]]
        self.assertEqual(calm_places(book), [1, 2])
        self.check(book)
        self.assertIs(is_calm(book, 1), True)
        self.assertIs(is_calm(book, 0), False)

    def test_greater_books(self):
        for book in some_books(16, 20, 3):
            self.check_unrest(book)
        for nest in some_nests(16, 10, 4):
            book = cards_of(nest)
            self.assertEqual(self.check_unrest(book), list(range(16)))
            book[3] = book[3][:-2]
            self.check_unrest(book)

    def test_edges(self):
        self.assertEqual(calm_places([[]]), [0])
        self.assertIsNone(unrest([[]], 0))
        self.assertEqual(calm_places([[] for _ in range(16)]), list(range(16)))
        self.assertEqual(calm_places(BOOK), [2, 3])
        self.check(BOOK)

    def test_refuses(self):
        for function in (is_calm, unrest):
            self.refuses(BadBook, {"place": 1}, function, [[], [1]], 9)
            self.refuses(BadPlace, {"place": 4}, function, BOOK, 4)
            self.refuses(BadPlace, {"place": -1}, function, BOOK, -1)
        self.refuses(BadBook, {"place": -1}, calm_places, [])
        self.refuses(BadBook, {"place": 0}, calm_places, [[1, 1], []])
