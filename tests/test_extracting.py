from tests.helpers import Case, all_nests, chain_nest, deep_nest, round_nest, some_nests
from tiedrings.errors import BadNest
from tiedrings.extracting import take_out
from tiedrings.inserting import put_in
from tiedrings.nests import Nest
from tiedrings.nesttext import format_nest, parse_nest
from tiedrings.renaming import rename_nest

NEST = parse_nest("((0>1 1>0)>2 2>1)>- 3>0")


class TakeOutTest(Case):
    def agrees(self, nest, places):
        outer, inner, entrances = take_out(nest, places)
        self.assertEqual(outer.size, nest.size - len(places) + 1)
        self.assertEqual(inner.size, len(places))
        self.assertEqual(inner.tops(), [tuple(range(len(places)))])
        last = outer.size - 1
        self.assertEqual(len(entrances), len([1 for _, gate in outer.nodes if gate == last]))
        # Put in again, it is the nest; this also shows the order of the entrances.
        outside = [place for place in range(nest.size) if place not in places]
        names = [(outside + list(places)).index(place) for place in range(nest.size)]
        joined = put_in(outer, last, inner, entrances)
        self.assertEqual(joined.nodes, rename_nest(nest, names).nodes)
        gate = nest.gate_of(places)
        self.assertEqual(outer.gate_of((last,)), gate if gate == -1 else outside.index(gate))

    def test_by_hand(self):
        for places, outer, inner, entrances in (
            ((0, 1), "(0>2 2>0)>- 1>2", "(0>1 1>0)>-", [1, 0]),
            ((0, 1, 2), "0>1 1>-", "((0>1 1>0)>2 2>1)>-", [0]),
            ((0,), "((0>3 3>0)>1 1>0)>- 2>3", "0>-", [0, 0]),
            ((3,), "((0>1 1>0)>2 2>1)>- 3>0", "0>-", []),
            ((2,), "((0>1 1>0)>3 3>1)>- 2>0", "0>-", [0]),
        ):
            found = take_out(NEST, places)
            self.assertEqual(format_nest(found[0]), outer)
            self.assertEqual(format_nest(found[1]), inner)
            self.assertEqual(found[2], entrances)

    def test_order_of_the_entrances(self):
        nest = parse_nest("(0>1 1>0)>4 (2>3 3>2)>4 (4>5 5>4)>- 6>5")
        outer, _, entrances = take_out(nest, (4, 5))
        self.assertEqual(format_nest(outer), "(0>1 1>0)>5 (2>3 3>2)>5 4>5 5>-")
        self.assertEqual(entrances, [1, 0, 0])

    def test_small_nests(self):
        for nest in [x for n in (1, 2, 3, 4) for x in all_nests(n)]:
            for node, _ in nest.nodes:
                self.agrees(nest, node)

    def test_sixteen_places(self):
        special = [deep_nest(16), round_nest(16), chain_nest(16), Nest.loose(16)]
        for nest in some_nests(16, 30, 1) + special:
            for node, _ in nest.nodes:
                self.agrees(nest, node)

    def test_edges(self):
        outer, inner, entrances = take_out(Nest.loose(1), (0,))
        self.assertEqual((outer.nodes, inner.nodes), ([((0,), -1)], [((0,), -1)]))
        self.assertEqual(entrances, [])
        for nest in (deep_nest(16), round_nest(16)):
            outer, inner, entrances = take_out(nest, tuple(range(16)))
            self.assertEqual((outer.nodes, inner.nodes), ([((0,), -1)], nest.nodes))
            self.assertEqual(entrances, [])

    def test_refuses(self):
        for places in ((), (1, 0), (0, 2), (4,), (-1,), (0, 1, 2, 3), (0, 0)):
            self.refuses(BadNest, {}, take_out, NEST, places)
