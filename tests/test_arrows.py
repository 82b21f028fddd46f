import itertools

from tests.helpers import (
    Case, all_books, all_lists, chain_nest, deep_nest, is_free_by_orders, plain_stands, round_nest,
    some_books, some_nests,
)
from tiedrings.arrows import arrows, free_at, possible_ends
from tiedrings.errors import BadBook, BadPlace
from tiedrings.nestcards import cards_of

TORN = [[1, 2, 3], [0, 3, 2], [3, 0, 1], [2, 0, 1]]


def plain_arrows(book, kept):
    """The ends of the arrows, as point 50 tells them."""
    found = []
    for place, card in enumerate(book):
        first = [at for at, entry in enumerate(card) if entry in kept]
        found.append(card[:first[0] + 1] if first else card + [-1])
        if place in kept:
            found[place] = []
    return found


def ends_by_orders(book, kept):
    """For each place the ends that some order of all that is not kept gives."""
    others = [place for place in range(len(book)) if place not in kept]
    stands = [plain_stands(book, order) for order in itertools.permutations(others)]
    return [sorted({row[place] for row in stands}) for place in range(len(book))]


class ArrowsTest(Case):
    def test_arrows_by_hand(self):
        self.assertEqual(arrows(TORN, []), [[1, 2, 3, -1], [0, 3, 2, -1], [3, 0, 1, -1], [2, 0, 1, -1]])
        self.assertEqual(arrows(TORN, [3]), [[1, 2, 3], [0, 3], [3], []])
        self.assertEqual(arrows(TORN, [2, 1]), [[1], [], [], [2]])
        self.assertEqual(arrows(TORN, [0, 1, 2, 3]), [[], [], [], []])
        self.assertEqual(arrows([[]], []), [[-1]])
        self.assertEqual(arrows([[]], [0]), [[]])
        self.assertEqual(arrows([[1], [], [1]], [0]), [[], [-1], [1, -1]])

    def test_arrows_of_many_books(self):
        for book in list(all_books(3)) + some_books(16, 10, 1):
            for kept in ([], [1], [2, 0], list(range(len(book)))):
                self.assertEqual(arrows(book, kept), plain_arrows(book, kept))

    def check(self, book, kept):
        wanted = ends_by_orders(book, kept)
        for place in range(len(book)):
            self.assertEqual(possible_ends(book, kept, place), wanted[place], (book, kept))
        free = all(len(ends) == 1 for ends in wanted)
        self.assertIs(free_at(book, kept), free)
        return free

    def test_ends_of_small_books(self):
        for size in (1, 2, 3):
            for book in all_books(size):
                free = [self.check(book, kept) for kept in all_lists(range(size))]
                self.assertIs(all(free), is_free_by_orders(book))
        for book in some_books(4, 40, 2) + [TORN]:
            free = [self.check(book, kept) for kept in all_lists(range(4))]
            self.assertIs(all(free), is_free_by_orders(book))
        for book in some_books(5, 6, 3):
            for kept in all_lists(range(5)):
                self.check(book, list(reversed(kept)))

    def test_ends_by_hand(self):
        self.assertEqual(possible_ends(TORN, [2, 3], 0), [2, 3])
        self.assertEqual(possible_ends(TORN, [2, 3], 2), [2])
        self.assertEqual(possible_ends(TORN, [], 0), [-1])
        self.assertEqual(possible_ends([[1], [], [0, 1]], [], 2), [-1])
        # Nothing leads to the kept place 2.
        self.assertEqual(possible_ends([[1], [], []], [2], 0), [-1])
        self.assertEqual(possible_ends([[1, 2], [], []], [2], 0), [-1, 2])
        self.assertIs(free_at(TORN, [2, 3]), False)
        self.assertIs(free_at(TORN, [3]), True)

    def test_sixteen_places(self):
        everything = list(range(16))
        for nest in [deep_nest(16), round_nest(16), chain_nest(16)] + some_nests(16, 5, 4):
            book = cards_of(nest)
            for kept in ([], [5], [9, 2, 15], everything[1:], everything):
                self.assertIs(free_at(book, kept), True)
                # The book is free, so any order tells the ends.
                stands = plain_stands(book, [place for place in everything if place not in kept])
                for place in everything:
                    self.assertEqual(possible_ends(book, kept, place), [stands[place]])
        empty = [[] for _ in range(16)]
        self.assertEqual(possible_ends(empty, [1], 0), [-1])
        self.assertEqual(possible_ends(empty, [1], 1), [1])

    def test_refuses(self):
        for function, more in ((arrows, ()), (free_at, ()), (possible_ends, (9,))):
            self.refuses(BadBook, {"place": 1}, function, [[], [1]], [9], *more)
            self.refuses(BadBook, {"place": -1}, function, [], [0], *more)
            self.refuses(BadPlace, {"place": 4}, function, TORN, [0, 4, -1], *more)
            self.refuses(BadPlace, {"place": -1}, function, TORN, [-1], *more)
            self.refuses(BadPlace, {"place": 2}, function, TORN, [2, 0, 2, 4], *more)
        for place in (4, -1, 16):
            self.refuses(BadPlace, {"place": place}, possible_ends, TORN, [0], place)
