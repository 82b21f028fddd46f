import random

from tests.helpers import (
    Case, all_lists, all_nests, chain_nest, deep_nest, plain_stands, round_nest, shuffled, some_nests,
)
from tiedrings.errors import BadPlace
from tiedrings.nestcards import cards_of
from tiedrings.nests import Nest
from tiedrings.nesttext import parse_nest
from tiedrings.reopening import taken_back

NEST = parse_nest("((0>1 1>0)>2 2>1)>-")


class ReopeningTest(Case):
    def agrees(self, nest, book, shut):
        before = plain_stands(book, shut)
        for place in shut:
            after = plain_stands(book, [other for other in shut if other != place])
            stand, who = taken_back(nest, shut, place)
            self.assertEqual(who, [x for x in range(nest.size) if after[x] == place])
            self.assertIn(place, who)
            # They stood together, and nobody else goes anywhere.
            self.assertEqual({before[x] for x in who}, {stand})
            for x in range(nest.size):
                if x not in who:
                    self.assertEqual(after[x], before[x])

    def test_by_hand(self):
        self.assertEqual(taken_back(NEST, [0], 0), (1, [0]))
        self.assertEqual(taken_back(NEST, [1, 0], 0), (2, [0, 1]))
        self.assertEqual(taken_back(NEST, [0, 1], 1), (2, [0, 1]))
        self.assertEqual(taken_back(NEST, [0, 1, 2], 2), (-1, [0, 1, 2]))
        self.assertEqual(taken_back(NEST, [0, 2], 2), (1, [2]))

    def test_small_nests_by_all_lists(self):
        for nest in [x for n in (1, 2, 3) for x in all_nests(n)] + list(all_nests(4))[::4]:
            book = cards_of(nest)
            for shut in all_lists(range(nest.size)):
                self.agrees(nest, book, shut)

    def test_sixteen_places(self):
        rng = random.Random(1)
        special = [deep_nest(16), round_nest(16), chain_nest(16), Nest.loose(16)]
        for nest in some_nests(16, 20, 2) + special:
            book = cards_of(nest)
            self.agrees(nest, book, shuffled(range(16), rng)[:rng.randrange(17)])
            self.agrees(nest, book, shuffled(range(16), rng))

    def test_edges(self):
        self.assertEqual(taken_back(Nest.loose(1), [0], 0), (-1, [0]))
        everything = list(range(16))
        self.assertEqual(taken_back(round_nest(16), everything, 5), (-1, everything))
        self.assertEqual(taken_back(Nest.loose(16), everything, 5), (-1, [5]))
        self.assertEqual(taken_back(chain_nest(16), everything, 5), (-1, everything[5:]))

    def test_refuses(self):
        self.refuses(BadPlace, {"place": 3}, taken_back, NEST, [1, 3, 1], 9)
        self.refuses(BadPlace, {"place": 1}, taken_back, NEST, [1, 1, 3], 9)
        for place in (3, -1, 0):
            self.refuses(BadPlace, {"place": place}, taken_back, NEST, [1, 2], place)
        self.refuses(BadPlace, {"place": 0}, taken_back, NEST, [], 0)
