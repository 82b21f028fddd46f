from tests.helpers import Case, all_nests, deep_nest, round_nest, some_nests
from tiedrings.errors import BadPlace
from tiedrings.faults import first_fault
from tiedrings.nestcards import card_of, cards_of, walk_from
from tiedrings.nests import Nest
from tiedrings.nesttext import parse_nest

NEST = parse_nest("((0>1 1>0)>2 2>1)>-")


def plain_walk(nest, place):
    """The walk, as point 14 tells it."""
    named, steps = [place], []
    while True:
        done = [pair for pair in nest.nodes if named[-1] in pair[0] and set(pair[0]) <= set(named)]
        node, gate = max(done, key=lambda pair: len(pair[0]))
        steps.append((node, gate))
        if gate == -1:
            return steps
        named.append(gate)


class CardsTest(Case):
    def test_example(self):
        self.assertEqual(cards_of(NEST), [[1, 2], [0, 2], [1, 0]])
        self.assertEqual(card_of(NEST, 2), [1, 0])
        self.assertEqual(
            list(walk_from(NEST, 2)), [((2,), 1), ((1,), 0), ((0, 1, 2), -1)])
        self.assertEqual(
            list(walk_from(NEST, 0)), [((0,), 1), ((0, 1), 2), ((0, 1, 2), -1)])

    def test_edges(self):
        self.assertEqual(cards_of(Nest.loose(1)), [[]])
        self.assertEqual(cards_of(Nest.loose(16)), [[] for _ in range(16)])
        self.assertEqual(
            cards_of(round_nest(16)), [[(x + k) % 16 for k in range(1, 16)] for x in range(16)])
        cards = cards_of(deep_nest(16))
        self.assertEqual(cards[0], list(range(1, 16)))
        self.assertEqual(cards[15], list(range(15)))
        self.assertEqual(list(walk_from(Nest.loose(2), 1)), [((1,), -1)])

    def test_against_walking(self):
        for nest in list(all_nests(4)) + some_nests(16, 20, 1):
            walks = [plain_walk(nest, place) for place in range(nest.size)]
            cards = [[gate for _, gate in walk[:-1]] for walk in walks]
            self.assertEqual(cards_of(nest), cards)
            self.assertEqual([card_of(nest, place) for place in range(nest.size)], cards)
            self.assertEqual([list(walk_from(nest, place)) for place in range(nest.size)], walks)
            self.assertIsNone(first_fault(cards))

    def test_unlike_nests_have_unlike_cards(self):
        books = {str(cards_of(nest)) for nest in all_nests(4)}
        self.assertEqual(len(books), 588)

    def test_refuses(self):
        for function in (card_of, walk_from):
            for place in (3, -1, 16):
                self.refuses(BadPlace, {"place": place}, function, NEST, place)

    def test_walk_refuses_when_first_iterated(self):
        walk = walk_from(NEST, 9)
        with self.assertRaises(BadPlace):
            next(walk)
