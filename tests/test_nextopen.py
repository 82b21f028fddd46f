import itertools

from tests.helpers import Case, all_nests, plain_stands, some_nests
from tiedrings.errors import BadPlace
from tiedrings.nestcards import cards_of
from tiedrings.nesttext import parse_nest
from tiedrings.nextopen import next_open

NEST = parse_nest("((0>1 1>0)>2 2>1)>-")


class NextOpenTest(Case):
    def test_stands(self):
        self.assertEqual(next_open(NEST, 0, []), 0)
        self.assertEqual(next_open(NEST, 0, [1, 2]), 0)
        self.assertEqual(next_open(NEST, 0, [0]), 1)
        self.assertEqual(next_open(NEST, 0, [1, 0]), 2)
        self.assertEqual(next_open(NEST, 0, [2, 1, 0]), -1)
        self.assertEqual(next_open(parse_nest("0>-"), 0, [0]), -1)

    def test_as_after_every_order_of_shutting(self):
        for nest in list(all_nests(3)) + some_nests(5, 20, 1):
            book = cards_of(nest)
            for number in range(nest.size + 1):
                for order in itertools.permutations(range(nest.size), number):
                    stands = [next_open(nest, place, list(order)) for place in range(nest.size)]
                    self.assertEqual(stands, plain_stands(book, order))

    def test_sixteen_places(self):
        for nest in some_nests(16, 10, 2):
            shut = [3, 15, 0, 8, 9, 1, 2, 4, 11, 5]
            stands = [next_open(nest, place, shut) for place in range(16)]
            self.assertEqual(stands, plain_stands(cards_of(nest), shut))

    def test_refuses(self):
        self.refuses(BadPlace, {"place": 3}, next_open, NEST, 3, [4])
        self.refuses(BadPlace, {"place": -1}, next_open, NEST, -1, [])
        self.refuses(BadPlace, {"place": 4}, next_open, NEST, 0, [1, 4, 1])
        self.refuses(BadPlace, {"place": 1}, next_open, NEST, 0, [1, 1, 4])
