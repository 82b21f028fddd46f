import itertools

from tests.helpers import Case, all_books, all_lists, plain_stands, some_books
from tiedrings.errors import BadBook, BadNumber, BadPlace
from tiedrings.openreach import come_past

TORN = [[1, 2, 3], [0, 3, 2], [3, 0, 1], [2, 0, 1]]


def pasts_of(size):
    """All lists of one or two places, in both orders."""
    pairs = [list(pair) for pair in itertools.permutations(range(size), 2)]
    return [[place] for place in range(size)] + pairs


def came_by_orders(book, past):
    """For each place the stands of its folk after some order of places outside the list."""
    others = [place for place in range(len(book)) if place not in past]
    came = [set() for _ in book]
    for length in range(len(others) + 1):
        for order in itertools.permutations(others, length):
            for place, stand in enumerate(plain_stands(book, order)):
                came[place].add(stand)
    return came


class OpenreachTest(Case):
    def check(self, book):
        for past in pasts_of(len(book)):
            came = came_by_orders(book, past)
            for watched in all_lists(range(len(book))):
                stands = set().union(*[came[place] for place in watched])
                # Where they are sent by what is kept, or home, they have not come past it.
                wanted = sorted(stands - {-1} - set(past))
                self.assertEqual(come_past(book, watched, past), wanted, (book, watched, past))

    def test_small_books(self):
        for size in (1, 2, 3):
            for book in all_books(size):
                self.check(book)
        for book in some_books(4, 20, 1) + some_books(5, 3, 2) + [TORN]:
            self.check(book)

    def test_by_hand(self):
        self.assertEqual(come_past(TORN, [0], [3]), [0, 1, 2])
        self.assertEqual(come_past(TORN, [0], [1]), [0])
        self.assertEqual(come_past(TORN, [0], [2]), [0, 1, 3])
        self.assertEqual(come_past(TORN, [0], [2, 3]), [0, 1])
        self.assertEqual(come_past(TORN, [0], [0]), [])
        self.assertEqual(come_past(TORN, [0, 2], [0]), [2, 3])
        self.assertEqual(come_past(TORN, [], [0]), [])
        self.assertEqual(come_past(TORN, [3, 1, 0, 2], [2]), [0, 1, 3])
        self.assertEqual(come_past([[]], [0], [0]), [])

    def test_sixteen_places(self):
        ring = [[(place + step) % 16 for step in range(1, 16)] for place in range(16)]
        self.assertEqual(come_past(ring, [3], [2]), [0, 1] + list(range(3, 16)))
        self.assertEqual(come_past(ring, [3], [8, 12]), [3, 4, 5, 6, 7])
        self.assertEqual(come_past(ring, list(range(16)), [8, 12]), [
            x for x in range(16) if x not in (8, 12)])
        empty = [[] for _ in range(16)]
        self.assertEqual(come_past(empty, [9, 4], [4]), [9])

    def test_refuses(self):
        self.refuses(BadBook, {"place": 1}, come_past, [[], [1]], [9], [8])
        self.refuses(BadPlace, {"place": 9}, come_past, TORN, [9], [8])
        self.refuses(BadPlace, {"place": 1}, come_past, TORN, [1, 1], [])
        self.refuses(BadPlace, {"place": 8}, come_past, TORN, [1], [8])
        self.refuses(BadPlace, {"place": -1}, come_past, TORN, [1], [2, 1, -1])
        self.refuses(BadPlace, {"place": 2}, come_past, TORN, [1], [2, 2])
        self.refuses(BadPlace, {"place": 2}, come_past, TORN, [1], [2, 0, 2])
        self.refuses(BadNumber, {"number": 0}, come_past, TORN, [1], [])
        self.refuses(BadNumber, {"number": 3}, come_past, TORN, [1], [3, 2, 0])
        self.refuses(BadNumber, {"number": 4}, come_past, TORN, [], [3, 2, 0, 1])
