from tests.helpers import Case, all_nests, deep_nest, round_nest, some_nests
from tiedrings.errors import BadNest, BadPlace
from tiedrings.nests import Nest
from tiedrings.nesttext import parse_nest
from tiedrings.treeview import least_node, members_of, nodes_around, ring_above, way_home

NEST = parse_nest("((0>1 1>0)>2 2>1)>3 3>- 4>6 5>4 6>-")


class TreeTest(Case):
    def test_members(self):
        self.assertEqual(members_of(NEST, (0, 1)), [(0,), (1,)])
        self.assertEqual(members_of(NEST, (0, 1, 2)), [(0, 1), (2,)])
        self.assertEqual(members_of(NEST, (4,)), [])
        self.assertEqual(members_of(round_nest(16), tuple(range(16))), [(x,) for x in range(16)])
        self.assertEqual(members_of(deep_nest(16), tuple(range(16))), [tuple(range(15)), (15,)])

    def test_members_in_ring_order(self):
        nest = parse_nest("(0>3 3>1 1>4 4>2 2>0)>-")
        self.assertEqual(members_of(nest, (0, 1, 2, 3, 4)), [(0,), (3,), (1,), (4,), (2,)])
        nest = parse_nest("((1>4 4>1)>3 3>0 (0>2 2>0)>4)>-")
        self.assertEqual(members_of(nest, (0, 1, 2, 3, 4)), [(0, 2), (1, 4), (3,)])

    def test_members_of_every_ring(self):
        for nest in list(all_nests(4)) + some_nests(16, 10, 1):
            for ring in nest.rings():
                members = members_of(nest, ring)
                self.assertEqual(tuple(sorted(sum(members, ()))), ring)
                self.assertIn(ring[0], members[0])
                for member, following in zip(members, members[1:] + members[:1]):
                    self.assertIn(nest.gate_of(member), following)
                    self.assertEqual(ring_above(nest, member), ring)

    def test_ring_above(self):
        self.assertEqual(ring_above(NEST, (0,)), (0, 1))
        self.assertEqual(ring_above(NEST, (0, 1)), (0, 1, 2))
        self.assertEqual(ring_above(NEST, (2,)), (0, 1, 2))
        self.assertIsNone(ring_above(NEST, (0, 1, 2)))
        self.assertIsNone(ring_above(NEST, (4,)))
        self.assertIsNone(ring_above(Nest.loose(1), (0,)))

    def test_no_nodes(self):
        for function in (members_of, ring_above):
            for places in ((), (7,), (-1,), (1, 0), (0, 2), (0, 1, 2, 3), (0, 0)):
                self.refuses(BadNest, {}, function, NEST, places)

    def test_least_node(self):
        self.assertEqual(least_node(NEST, [0]), (0,))
        self.assertEqual(least_node(NEST, [1, 0]), (0, 1))
        self.assertEqual(least_node(NEST, [2, 0]), (0, 1, 2))
        self.assertEqual(least_node(NEST, [2, 0, 1]), (0, 1, 2))
        self.assertIsNone(least_node(NEST, [0, 3]))
        self.assertIsNone(least_node(NEST, [5, 4]))
        self.assertEqual(least_node(NEST, []), (0,))
        self.assertEqual(least_node(deep_nest(16), [15, 3]), tuple(range(16)))
        self.refuses(BadPlace, {"place": 7}, least_node, NEST, [0, 7, 0])
        self.refuses(BadPlace, {"place": 0}, least_node, NEST, [0, 0, 7])
        self.refuses(BadPlace, {"place": -1}, least_node, NEST, [-1])

    def test_nodes_around(self):
        self.assertEqual(nodes_around(NEST, 1), [(1,), (0, 1), (0, 1, 2)])
        self.assertEqual(nodes_around(NEST, 6), [(6,)])
        self.assertEqual(
            nodes_around(deep_nest(16), 0), [tuple(range(size)) for size in range(1, 17)])

    def test_way_home(self):
        self.assertEqual(way_home(NEST, 0), [(0, 1, 2), (3,)])
        self.assertEqual(way_home(NEST, 5), [(5,), (4,), (6,)])
        self.assertEqual(way_home(NEST, 6), [(6,)])
        self.assertEqual(way_home(Nest.loose(1), 0), [(0,)])
        for nest in list(all_nests(4)) + some_nests(16, 10, 2):
            for place in range(nest.size):
                way = way_home(nest, place)
                self.assertIn(place, way[0])
                for top, following in zip(way, way[1:]):
                    self.assertIn(nest.gate_of(top), following)
                self.assertEqual(nest.gate_of(way[-1]), -1)
                self.assertLessEqual(set(way), set(nest.tops()))

    def test_wrong_places(self):
        for function in (nodes_around, way_home):
            for place in (7, -1, -2, 16):
                self.refuses(BadPlace, {"place": place}, function, NEST, place)
