import random

from tests.helpers import (
    Case, all_lists, all_nests, chain_nest, deep_nest, plain_stands, round_nest, shuffled, some_nests,
)
from tiedrings.cutting import cut
from tiedrings.errors import BadPlace, BadSize
from tiedrings.nestcards import cards_of
from tiedrings.nests import Nest
from tiedrings.nesttext import format_nest, parse_nest

NEST = parse_nest("((0>1 1>0)>2 2>1)>- 3>2")


class CuttingTest(Case):
    def agrees(self, nest, gone):
        left, kept = cut(nest, gone)
        self.assertEqual(kept, [place for place in range(nest.size) if place not in gone])
        cards = [
            [kept.index(entry) for entry in cards_of(nest)[old] if entry in kept] for old in kept
        ]
        self.assertEqual(cards_of(left), cards)
        return left, kept

    def test_by_hand(self):
        for gone, text, kept in (
            ([], "((0>1 1>0)>2 2>1)>- 3>2", [0, 1, 2, 3]), ([3], "((0>1 1>0)>2 2>1)>-", [0, 1, 2]),
            ([1], "(0>1 1>0)>- 2>1", [0, 2, 3]), ([2], "(0>1 1>0)>- 2>1", [0, 1, 3]),
            ([2, 1], "0>- 1>0", [0, 3]), ([1, 2, 0], "0>-", [3]),
        ):
            left, numbers = cut(NEST, gone)
            self.assertEqual((format_nest(left), numbers), (text, kept), gone)

    def test_small_nests(self):
        for nest in [x for n in (1, 2, 3) for x in all_nests(n)] + list(all_nests(4))[::4]:
            book = cards_of(nest)
            for gone in all_lists(range(nest.size)):
                if len(gone) == nest.size:
                    self.refuses(BadSize, {"size": 0}, cut, nest, gone)
                    continue
                left, kept = self.agrees(nest, gone)
                # Whatever is shut then, the folk stand as if the places had been shut before.
                for shut in all_lists(range(len(kept))):
                    stands = plain_stands(book, gone + [kept[place] for place in shut])
                    new = plain_stands(cards_of(left), shut)
                    self.assertEqual(
                        [stands[old] for old in kept], [x if x == -1 else kept[x] for x in new])

    def test_sixteen_places(self):
        rng = random.Random(1)
        special = [deep_nest(16), round_nest(16), chain_nest(16), Nest.loose(16)]
        for nest in some_nests(16, 20, 2) + special:
            for number in (0, 1, 5, 9, 14, 15):
                self.agrees(nest, shuffled(range(16), rng)[:number])

    def test_edges(self):
        self.assertEqual(cut(Nest.loose(1), [])[0].nodes, [((0,), -1)])
        left, kept = cut(round_nest(16), [3, 1])
        self.assertEqual(left.nodes, round_nest(14).nodes)
        self.assertEqual(kept, [0, 2] + list(range(4, 16)))
        self.assertEqual(cut(deep_nest(16), [15])[0].nodes, deep_nest(15).nodes)
        self.assertEqual(cut(deep_nest(16), list(range(15)))[0].nodes, [((0,), -1)])

    def test_refuses(self):
        self.refuses(BadPlace, {"place": 4}, cut, NEST, [0, 1, 2, 3, 4, 0])
        self.refuses(BadPlace, {"place": 0}, cut, NEST, [0, 1, 2, 3, 0])
        self.refuses(BadPlace, {"place": -1}, cut, NEST, [-1])
        self.refuses(BadSize, {"size": 0}, cut, NEST, [3, 1, 0, 2])
        self.refuses(BadSize, {"size": 0}, cut, Nest.loose(1), [0])
