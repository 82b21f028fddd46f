import itertools
import random

from tests.helpers import (
    Case, all_books, all_lists, chain_nest, deep_nest, plain_stands, round_nest, shuffled, some_books,
)
from tests.test_arrows import ends_by_orders
from tiedrings.errors import BadBook, BadPlace
from tiedrings.gathering import gather, hopeful, together
from tiedrings.nestcards import cards_of

TORN = [[1, 2, 3], [0, 3, 2], [3, 0, 1], [2, 0, 1]]


def open_to_some(book, kept):
    """The places that are not kept."""
    return [place for place in range(len(book)) if place not in kept]


class GatheringTest(Case):
    def check(self, book, kept, goals, ends):
        """Compares with the ends of all orders, and shuts the places one after another."""
        others = open_to_some(book, kept)
        wanted = [place for place in others if set(ends[place]) & set(goals)]
        self.assertEqual(hopeful(book, kept, goals=goals), wanted, (book, kept, goals))
        self.check_order(book, kept, goals, wanted)

    def check_order(self, book, kept, goals, wanted):
        order = gather(book, kept, goals=goals)
        self.assertEqual(sorted(order), open_to_some(book, kept))
        stands = plain_stands(book, order)
        there = [place for place in order if stands[place] in goals]
        self.assertEqual(sorted(there), wanted, (book, kept, goals))

    def all_goals(self, book):
        for kept in all_lists(range(len(book))):
            ends = ends_by_orders(book, kept)
            for goals in all_lists(kept + [-1]):
                self.check(book, kept, goals, ends)

    def test_small_books(self):
        for size in (1, 2, 3):
            for book in all_books(size):
                self.all_goals(book)
        for book in some_books(4, 30, 1) + some_books(5, 4, 2) + [TORN]:
            self.all_goals(book)

    def test_by_hand(self):
        self.assertEqual(hopeful(TORN, [2, 3], goals=[2]), [0, 1])
        self.assertEqual(hopeful(TORN, [2, 3], goals=[3]), [0, 1])
        self.assertEqual(hopeful(TORN, [3, 2], goals=[3, 2]), [0, 1])
        self.assertEqual(hopeful(TORN, [2, 3], goals=[-1]), [])
        self.assertEqual(hopeful(TORN, [2, 3], goals=[]), [])
        self.assertEqual(hopeful(TORN, [], goals=[-1]), [0, 1, 2, 3])
        self.assertEqual(hopeful(TORN, [0, 1, 2, 3], goals=[1, -1]), [])
        self.assertEqual(gather(TORN, [0, 1, 2, 3], goals=[1]), [])
        self.assertEqual(sorted(gather(TORN, [2], goals=[])), [0, 1, 3])
        self.assertEqual(hopeful([[1], [2], [0]], [1, 2], goals=[2]), [])
        self.assertEqual(hopeful([[1], [], []], [2], goals=[2]), [])
        self.assertEqual(hopeful([[1], [], []], [2], goals=[-1, 2]), [0, 1])

    def test_sixteen_places(self):
        rng = random.Random(3)
        for book in some_books(16, 30, 4):
            kept = shuffled(range(16), rng)[:rng.randrange(8)]
            goals = [end for end in shuffled(kept + [-1], rng) if rng.random() < 0.4]
            wanted = hopeful(book, kept, goals=goals)
            self.check_order(book, kept, goals, wanted)
            for _ in range(20):
                stands = plain_stands(book, shuffled(open_to_some(book, kept), rng))
                there = [x for x in open_to_some(book, kept) if stands[x] in goals]
                self.assertLessEqual(set(there), set(wanted))
        for nest in (deep_nest(16), round_nest(16), chain_nest(16)):
            self.assertEqual(hopeful(cards_of(nest), [0], goals=[0]), list(range(1, 16)))

    def test_together(self):
        self.assertEqual(together(TORN, [2, 3], 0), [2, 3])
        self.assertEqual(together(TORN, [2, 3], 0, 1), [2, 3])
        self.assertEqual(together(TORN, [2, 3], 0, 2), [2])
        self.assertEqual(together(TORN, [2, 3], 2, 3), [])
        self.assertEqual(together([[1, 2], [], []], [2], 0, 1), [-1])
        self.assertEqual(together([[]], [0], 0), [0])
        self.assertEqual(together(cards_of(round_nest(16)), [7], *range(16)), [7])

    def test_together_by_all_orders(self):
        for book in list(all_books(3))[::5] + some_books(4, 12, 5) + some_books(5, 3, 6):
            for kept in all_lists(range(len(book))):
                stands = [plain_stands(book, x) for x in itertools.permutations(open_to_some(book, kept))]
                for places in all_lists(range(len(book))):
                    if not places:
                        continue
                    met = {row[places[0]] for row in stands if len({row[x] for x in places}) == 1}
                    self.assertEqual(together(book, kept, *places), sorted(met))
                    self.assertEqual(together(book, kept, *reversed(places)), sorted(met))

    def test_refuses(self):
        for function in (hopeful, gather):
            self.refuses(BadBook, {"place": 1}, function, [[], [1]], [9], goals=[8])
            self.refuses(BadPlace, {"place": 4}, function, TORN, [0, 4], goals=[8])
            self.refuses(BadPlace, {"place": 2}, function, TORN, [2, 2], goals=[8])
            self.refuses(BadPlace, {"place": -1}, function, TORN, [-1], goals=[-1])
            # A place that is not kept, what is no place, and ends that are named twice.
            self.refuses(BadPlace, {"place": 1}, function, TORN, [2, 3], goals=[2, 1, 3, 3])
            self.refuses(BadPlace, {"place": 4}, function, TORN, [2, 3], goals=[4])
            self.refuses(BadPlace, {"place": -2}, function, TORN, [2, 3], goals=[-1, -2])
            self.refuses(BadPlace, {"place": 3}, function, TORN, [2, 3], goals=[3, -1, 3, -1])
            self.refuses(BadPlace, {"place": -1}, function, TORN, [2, 3], goals=[-1, 2, -1])
        self.refuses(BadBook, {"place": 0}, together, [[0]], [9], 9)
        self.refuses(BadPlace, {"place": 9}, together, TORN, [9], 8)
        self.refuses(BadPlace, {"place": 8}, together, TORN, [0], 8, 8)
        self.refuses(BadPlace, {"place": 1}, together, TORN, [0], 1, 0, 1, 9)
        self.refuses(BadPlace, {"place": -1}, together, TORN, [0], 1, -1)
