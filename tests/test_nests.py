import itertools

from tests.helpers import Case, all_nests, deep_nest, round_nest, some_nests
from tiedrings.errors import BadNest, BadSize
from tiedrings.nests import Nest

PAIRS = [((0,), 1), ((1,), 0), ((2,), 1), ((0, 1), 2), ((0, 1, 2), -1)]


class NestTest(Case):
    def test_example(self):
        for pairs in itertools.permutations(PAIRS):
            nest = Nest(3, list(pairs))
            self.assertEqual(nest.nodes, PAIRS)
            self.assertEqual(nest.size, 3)
            self.assertEqual(list(nest), PAIRS)
            self.assertEqual(nest.tops(), [(0, 1, 2)])
            self.assertEqual(nest.rings(), [(0, 1), (0, 1, 2)])

    def test_numbers_of_nests(self):
        for size, number in ((1, 1), (2, 4), (3, 36), (4, 588)):
            seen = {tuple(nest.nodes) for nest in all_nests(size)}
            self.assertEqual(len(seen), number)

    def test_made_again_from_its_nodes(self):
        for nest in list(all_nests(4)) + some_nests(16, 20, 1):
            again = Nest(nest.size, list(reversed(nest.nodes)))
            self.assertEqual(again.nodes, nest.nodes)

    def test_normal_order(self):
        nest = Nest(4, [((1, 3), 0), ((3,), 1), ((1,), 3), ((0, 2), -1), ((2,), 0), ((0,), 2)])
        self.assertEqual([node for node, _ in nest.nodes], [(0,), (1,), (2,), (3,), (0, 2), (1, 3)])
        self.assertEqual(nest.rings(), [(0, 2), (1, 3)])
        self.assertEqual(nest.tops(), [(0, 2), (1, 3)])
        for nest in some_nests(16, 20, 2):
            self.assertEqual(nest.nodes, sorted(nest.nodes, key=lambda pair: (len(pair[0]), pair[0])))

    def test_tops_by_least_place(self):
        nest = Nest(4, [((0,), 3), ((3,), 0), ((1,), 2), ((2,), -1), ((0, 3), 1)])
        self.assertEqual(nest.tops(), [(0, 3), (1,), (2,)])
        self.assertEqual(nest.rings(), [(0, 3)])

    def test_edges(self):
        self.assertEqual(Nest(1, [((0,), -1)]).nodes, [((0,), -1)])
        self.assertEqual(Nest.loose(1).nodes, [((0,), -1)])
        self.assertEqual(Nest.loose(16).nodes, [((place,), -1) for place in range(16)])
        self.assertEqual(Nest.loose(16).tops(), [(place,) for place in range(16)])
        self.assertEqual(Nest.loose(3).rings(), [])
        self.assertEqual(len(deep_nest(16).nodes), 31)
        self.assertEqual(deep_nest(16).tops(), [tuple(range(16))])
        self.assertEqual(deep_nest(16).rings(), [tuple(range(k)) for k in range(2, 17)])
        self.assertEqual(len(round_nest(16).nodes), 17)
        self.assertEqual(round_nest(16).rings(), [tuple(range(16))])

    def test_gate_of(self):
        nest = Nest(3, PAIRS)
        for node, gate in PAIRS:
            self.assertEqual(nest.gate_of(node), gate)
        for node in ((), (3,), (1, 0), (0, 2), (-1,), (0, 1, 2, 3), (0, 0)):
            self.refuses(BadNest, {}, nest.gate_of, node)

    def test_sizes(self):
        for size in (0, 17, -1, 10 ** 9):
            self.refuses(BadSize, {"size": size}, Nest, size, [((5, 5), 5)])
            self.refuses(BadSize, {"size": size}, Nest.loose, size)


class NoNestTest(Case):
    def test_every_set_of_pairs_with_two_places(self):
        nests = {frozenset(nest.nodes) for nest in all_nests(2)}
        nodes = [(), (0,), (1,), (0, 1), (1, 0), (2,), (0, 0)]
        pairs = [(node, gate) for node in nodes for gate in (-2, -1, 0, 1, 2)]
        for number in range(4):
            for told in itertools.combinations(pairs, number):
                if frozenset(told) in nests:
                    self.assertEqual(frozenset(Nest(2, list(told)).nodes), frozenset(told))
                else:
                    self.refuses(BadNest, {}, Nest, 2, list(told))

    def test_bent_nests(self):
        nests = {frozenset(nest.nodes) for nest in all_nests(3)}
        for nodes in nests:
            pairs = sorted(nodes)
            for at, (node, gate) in enumerate(pairs):
                others = pairs[:at] + pairs[at + 1:]
                self.refuses(BadNest, {}, Nest, 3, others)
                self.refuses(BadNest, {}, Nest, 3, pairs + [(node, gate)])
                self.refuses(BadNest, {}, Nest, 3, pairs + [(node, -1 if gate != -1 else 0)])
                self.refuses(BadNest, {}, Nest, 3, others + [(node + (node[0],), gate)])
                for bent in (-2, 3, node[0], -1, 0, 1, 2):
                    told = others + [(node, bent)]
                    if frozenset(told) not in nests:
                        self.refuses(BadNest, {}, Nest, 3, told)
                if len(node) > 1:
                    self.refuses(BadNest, {}, Nest, 3, others + [(node[::-1], gate)])

    def test_more_nodes_than_are_tied(self):
        loose = [((0,), -1), ((1,), -1), ((2,), -1)]
        for more in ((0, 1), (0, 1, 2), (3,), ()):
            self.refuses(BadNest, {}, Nest, 3, loose + [(more, -1)])

    def test_other_size(self):
        self.refuses(BadNest, {}, Nest, 2, PAIRS)
        self.refuses(BadNest, {}, Nest, 4, PAIRS)
        self.refuses(BadNest, {}, Nest, 1, [])
        self.refuses(BadNest, {}, Nest, 2, [((0,), 1), ((1,), 0)])
