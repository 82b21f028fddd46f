import itertools
import random

from tests.helpers import (
    Case, all_lists, all_nests, deep_nest, plain_stands, round_nest, shuffled, some_nests,
)
from tiedrings.errors import BadPlace
from tiedrings.nestcards import cards_of
from tiedrings.nests import Nest
from tiedrings.nesttext import parse_nest
from tiedrings.standing import groups_of, stands_of

NEST = parse_nest("((0>1 1>0)>2 2>1)>- 3>2")


def plain_groups(stands):
    ends = sorted(set(stands) - {-1}) + [-1] * (-1 in stands)
    return [(end, [x for x, stand in enumerate(stands) if stand == end]) for end in ends]


class StandingTest(Case):
    def test_by_hand(self):
        self.assertEqual(stands_of(NEST, [0]), [1, 1, 2, 3])
        self.assertEqual(stands_of(NEST, [1, 0]), [2, 2, 2, 3])
        self.assertEqual(stands_of(NEST, [2, 0, 1]), [-1, -1, -1, 3])
        self.assertEqual(groups_of(NEST, [1, 0]), [(2, [0, 1, 2]), (3, [3])])
        self.assertEqual(groups_of(NEST, [2, 0, 1]), [(3, [3]), (-1, [0, 1, 2])])
        self.assertEqual(groups_of(NEST, [3, 2]), [(0, [0]), (1, [1, 2, 3])])

    def test_as_after_every_order_of_shutting(self):
        for nest in [x for n in (1, 2, 3) for x in all_nests(n)] + list(all_nests(4))[::4]:
            book = cards_of(nest)
            for shut in all_lists(range(nest.size)):
                stands = stands_of(nest, shut)
                for order in itertools.permutations(shut):
                    self.assertEqual(plain_stands(book, order), stands)
                    self.assertEqual(stands_of(nest, list(order)), stands)
                self.assertEqual(groups_of(nest, shut), plain_groups(stands))

    def test_folk_stay_together(self):
        for nest in [*all_nests(3), *some_nests(6, 10, 1)]:
            for shut in all_lists(range(nest.size)):
                before = stands_of(nest, shut)
                for further in range(nest.size):
                    if further in shut:
                        continue
                    after = stands_of(nest, shut + [further])
                    for x, y in itertools.combinations(range(nest.size), 2):
                        if before[x] == before[y]:
                            self.assertEqual(after[x], after[y])
                        if before[x] == -1:
                            self.assertEqual(after[x], -1)

    def test_nothing_and_everything_shut(self):
        for nest in [Nest.loose(1), Nest.loose(16), deep_nest(16), round_nest(16)]:
            everything = list(range(nest.size))
            self.assertEqual(stands_of(nest, []), everything)
            self.assertEqual(groups_of(nest, []), [(x, [x]) for x in everything])
            self.assertEqual(stands_of(nest, everything), [-1] * nest.size)
            self.assertEqual(groups_of(nest, everything), [(-1, everything)])

    def test_sixteen_places(self):
        rng = random.Random(1)
        for nest in some_nests(16, 20, 2):
            shut = shuffled(range(16), rng)[:rng.randrange(17)]
            stands = plain_stands(cards_of(nest), shut)
            self.assertEqual(stands_of(nest, shut), stands)
            self.assertEqual(groups_of(nest, shut), plain_groups(stands))

    def test_refuses(self):
        for function in (stands_of, groups_of):
            self.refuses(BadPlace, {"place": 4}, function, NEST, [1, 4, 1])
            self.refuses(BadPlace, {"place": 1}, function, NEST, [1, 1, 4])
            self.refuses(BadPlace, {"place": -1}, function, NEST, [0, -1])
