import itertools

from tests.helpers import (
    Case, all_lists, all_nests, chain_nest, deep_nest, plain_stands, round_nest, some_nests,
)
from tiedrings.errors import BadNumber, BadPlace
from tiedrings.feeding import feed_way, feeders
from tiedrings.nestcards import cards_of
from tiedrings.nests import Nest
from tiedrings.nesttext import parse_nest
from tiedrings.piles import pile, pile_sizes

NEST = parse_nest("((0>1 1>0)>2 2>1)>-")


def plain_sizes(nest, goal):
    """The pile sizes by going through all sets of feeders."""
    nodes = [node for node, _ in feeders(nest, goal)]
    sizes = set()
    for number in range(len(nodes) + 1):
        for some in itertools.combinations(nodes, number):
            ways = [feed_way(nest, goal, node[0]) for node in some]
            if all(node in some for way in ways for node in way):
                sizes.add(sum(len(node) for node in some))
    return sorted(sizes)


class PilesTest(Case):
    def stands_up(self, nest, goal, number):
        """Walks with the list that is told; returns the number of folk."""
        folk, shut = pile(nest, goal, number)
        self.assertEqual(shut, sorted(set(shut)))
        self.assertEqual(len(shut), number)
        self.assertNotIn(goal, shut)
        self.assertEqual(plain_stands(cards_of(nest), shut).count(goal), folk)
        return folk

    def test_examples(self):
        self.assertEqual((pile_sizes(NEST, 1), pile_sizes(NEST, 2)), ([0, 1, 2], [0, 2]))

    def test_by_hand(self):
        self.assertEqual(pile(NEST, 2, 0), (1, []))
        self.assertEqual(pile(NEST, 2, 1)[0], 1)
        self.assertEqual(pile(NEST, 2, 2), (3, [0, 1]))
        self.assertEqual(pile(NEST, 1, 2), (3, [0, 2]))
        nest = parse_nest("0>1 1>- (2>3 3>2)>0 4>-")
        self.assertEqual(pile_sizes(nest, 1), [0, 1, 3])
        self.assertEqual(pile_sizes(nest, 0), [0, 2])
        self.assertEqual(pile(nest, 1, 3), (4, [0, 2, 3]))
        self.assertEqual(pile(nest, 1, 2)[0], 2)

    def test_small_nests_by_all_lists(self):
        for nest in [x for n in (1, 2, 3) for x in all_nests(n)] + list(all_nests(4))[::3]:
            book = cards_of(nest)
            seen = [(shut, plain_stands(book, shut)) for shut in all_lists(range(nest.size))]
            for goal in range(nest.size):
                self.assertEqual(pile_sizes(nest, goal), plain_sizes(nest, goal))
                for number in range(nest.size):
                    most = max(
                        stands.count(goal) for shut, stands in seen
                        if len(shut) == number and goal not in shut)
                    self.assertEqual(self.stands_up(nest, goal, number), most)

    def test_more_places(self):
        for nest in some_nests(8, 40, 1):
            for goal in range(8):
                sizes = plain_sizes(nest, goal)
                self.assertEqual(pile_sizes(nest, goal), sizes)
                for number in range(8):
                    best = max(size for size in sizes if size <= number)
                    self.assertEqual(self.stands_up(nest, goal, number), best + 1)

    def test_sixteen_places(self):
        for nest in some_nests(16, 20, 2):
            for goal in range(16):
                sizes = pile_sizes(nest, goal)
                self.assertEqual(sizes, sorted(set(sizes)))
                self.assertEqual(sizes[-1], sum(len(node) for node, _ in feeders(nest, goal)))
                for number in (0, 7, 15):
                    best = max(size for size in sizes if size <= number)
                    self.assertEqual(self.stands_up(nest, goal, number), best + 1)

    def test_edges(self):
        self.assertEqual(pile_sizes(Nest.loose(1), 0), [0])
        self.assertEqual(pile(Nest.loose(1), 0, 0), (1, []))
        self.assertEqual(pile_sizes(Nest.loose(16), 4), [0])
        self.assertEqual(pile(Nest.loose(16), 0, 15), (1, list(range(1, 16))))
        self.assertEqual(pile_sizes(round_nest(16), 4), list(range(16)))
        self.assertEqual(pile_sizes(chain_nest(16), 0), list(range(16)))
        self.assertEqual(pile_sizes(chain_nest(16), 15), [0])
        self.assertEqual(pile_sizes(deep_nest(16), 0), list(range(16)))
        self.assertEqual(pile_sizes(deep_nest(16), 15), [0, 15])
        for nest in (round_nest(16), deep_nest(16), chain_nest(16)):
            self.assertEqual(pile(nest, 0, 15), (16, list(range(1, 16))))
            self.assertEqual(pile(nest, 0, 0), (1, []))

    def test_refuses(self):
        for goal in (3, -1, 16):
            self.refuses(BadPlace, {"place": goal}, pile_sizes, NEST, goal)
            self.refuses(BadPlace, {"place": goal}, pile, NEST, goal, -1)
        for number in (-1, 3, 16):
            self.refuses(BadNumber, {"number": number}, pile, NEST, 0, number)
        self.refuses(BadNumber, {"number": 1}, pile, Nest.loose(1), 0, 1)
