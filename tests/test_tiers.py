from tests.helpers import Case, all_nests, deep_nest, round_nest, some_nests
from tiedrings.errors import BadSize, BadStep
from tiedrings.nests import Nest
from tiedrings.tiers import Tier


class TierTest(Case):
    def test_gate_by_gate(self):
        tier = Tier(3)
        self.assertEqual(tier.waiting, [(0,), (1,), (2,)])
        self.assertIsNone(tier.put((2,), 1))
        self.assertEqual(tier.waiting, [(0,), (1,)])
        self.assertIsNone(tier.put((1,), 0))
        self.assertEqual(tier.put((0,), 1), (0, 1))
        self.assertEqual(tier.waiting, [(0, 1)])
        self.assertEqual(tier.put((0, 1), 2), (0, 1, 2))
        self.assertEqual(tier.waiting, [(0, 1, 2)])
        self.assertIsNone(tier.put((0, 1, 2), -1))
        self.assertEqual(tier.waiting, [])
        nest = tier.finished()
        self.assertIsInstance(nest, Nest)
        self.assertEqual(
            nest.nodes, [((0,), 1), ((1,), 0), ((2,), 1), ((0, 1), 2), ((0, 1, 2), -1)])

    def test_rings_wait_behind_singles(self):
        tier = Tier(4)
        tier.put((3,), 2)
        self.assertEqual(tier.put((2,), 3), (2, 3))
        self.assertEqual(tier.waiting, [(0,), (1,), (2, 3)])
        tier.put((0,), 1)
        self.assertEqual(tier.put((1,), 0), (0, 1))
        self.assertEqual(tier.waiting, [(0, 1), (2, 3)])
        self.assertIsNone(tier.put((0, 1), 3))
        self.assertEqual(tier.put((2, 3), 0), (0, 1, 2, 3))

    def test_waiting_ring_closes_a_later_circle(self):
        tier = Tier(3)
        tier.put((0,), 1)
        self.assertEqual(tier.put((1,), 0), (0, 1))
        self.assertIsNone(tier.put((0, 1), 2))
        self.assertEqual(tier.put((2,), 0), (0, 1, 2))

    def test_every_nest_in_any_order(self):
        for nest in list(all_nests(3)) + some_nests(16, 20, 1) + [deep_nest(16), round_nest(16)]:
            for last in (True, False):
                tier = Tier(nest.size)
                while tier.waiting:
                    node = tier.waiting[-1 if last else 0]
                    self.assertEqual(
                        tier.waiting, sorted(tier.waiting, key=lambda node: (len(node), node)))
                    tier.put(node, nest.gate_of(node))
                self.assertEqual(tier.finished().nodes, nest.nodes)

    def test_sizes(self):
        for size in (0, 17, -1):
            self.refuses(BadSize, {"size": size}, Tier, size)
        self.assertEqual(Tier(1).waiting, [(0,)])
        self.assertEqual(Tier(16).waiting, [(place,) for place in range(16)])

    def test_refused_steps_change_nothing(self):
        tier = Tier(3)
        tier.put((0,), 1)
        for places, gate in (
            ((0,), 1), ((0,), 2), ((0, 1), 2), ((), 0), ((3,), 0), ((1, 2), 0), ((1, 1), 0),
            ((1,), 1), ((1,), 3), ((1,), -2), ((1,), 10 ** 9), ((2,), 2),
        ):
            self.refuses(BadStep, {}, tier.put, places, gate)
            self.refuses(BadStep, {}, tier.finished)
            self.assertEqual(tier.waiting, [(1,), (2,)])
        self.assertEqual(tier.put((1,), 0), (0, 1))
        for places, gate in (((0,), 2), ((1,), 2), ((1, 0), 2), ((0, 1), 0), ((0, 1), 1)):
            self.refuses(BadStep, {}, tier.put, places, gate)
            self.assertEqual(tier.waiting, [(2,), (0, 1)])
        tier.put((0, 1), -1)
        tier.put((2,), 0)
        self.refuses(BadStep, {}, tier.put, (2,), 1)
        self.assertEqual(
            tier.finished().nodes, [((0,), 1), ((1,), 0), ((2,), 0), ((0, 1), -1)])

    def test_not_finished(self):
        self.refuses(BadStep, {}, Tier(1).finished)
        tier = Tier(2)
        tier.put((0,), 1)
        tier.put((1,), 0)
        self.refuses(BadStep, {}, tier.finished)

    def test_lists_are_new(self):
        tier = Tier(3)
        tier.waiting.clear()
        self.assertEqual(tier.waiting, [(0,), (1,), (2,)])
