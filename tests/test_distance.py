import random

from tests.helpers import Case, all_nests, chain_nest, deep_nest, round_nest, some_nests
from tests.test_peeling import steps_to_all
from tiedrings.distance import common_part, fewest_steps, step_count
from tiedrings.errors import BadSize
from tiedrings.leading import do_steps
from tiedrings.nests import Nest
from tiedrings.nesttext import format_nest, parse_nest

NEST = parse_nest("((0>1 1>0)>2 2>1)>3 3>-")


def plain_common(nest, other):
    """The nodes of the common part, as point 48 tells them."""
    gates, others = dict(nest.nodes), dict(other.nodes)
    common = []
    for node, gate in nest.nodes:
        inside = [n for n in set(gates) | set(others) if set(n) < set(node)]
        same = all(n in gates and n in others and gates[n] == others[n] for n in inside)
        if gate != -1 and others.get(node) == gate and same:
            common.append(node)
    return common


class DistanceTest(Case):
    def check(self, nest, other):
        common = plain_common(nest, other)
        part = common_part(nest, other)
        self.assertEqual([node for node, gate in part if gate != -1], common)
        for node in common:
            self.assertEqual(part.gate_of(node), nest.gate_of(node))
        steps = fewest_steps(nest, other)
        undone = [node for node, gate in nest if gate != -1 and node not in common]
        done = [node for node, gate in other if gate != -1 and node not in common]
        self.assertEqual(
            steps, [("loosen", node) for node in reversed(undone)]
            + [("lead", node, other.gate_of(node)) for node in done])
        self.assertEqual(do_steps(nest, steps[:len(undone)]).nodes, part.nodes)
        self.assertEqual(do_steps(nest, steps).nodes, other.nodes)
        self.assertEqual(step_count(nest, other), len(steps))

    def test_by_hand(self):
        other = parse_nest("((0>1 1>0)>2 2>0)>- 3>1")
        self.assertEqual(format_nest(common_part(NEST, other)), "(0>1 1>0)>2 2>- 3>-")
        self.assertEqual(fewest_steps(NEST, other), [
            ("loosen", (0, 1, 2)), ("loosen", (2,)), ("lead", (2,), 0), ("lead", (3,), 1)])
        self.assertEqual(step_count(NEST, other), 4)
        # The ring of 0, 1 and 2 leads to 3 in both nests, but it is tied the other way round.
        one, two = parse_nest("(0>1 1>2 2>0)>3 3>-"), parse_nest("(0>2 2>1 1>0)>3 3>-")
        self.assertEqual(common_part(one, parse_nest("(0>1 1>2 2>0)>- 3>-")).tops(), [(0, 1, 2), (3,)])
        self.assertEqual(fewest_steps(one, two), [
            ("loosen", (0, 1, 2)), ("loosen", (2,)), ("loosen", (1,)), ("loosen", (0,)),
            ("lead", (0,), 2), ("lead", (1,), 0), ("lead", (2,), 1), ("lead", (0, 1, 2), 3)])

    def test_fewest_of_all(self):
        for size in (1, 2, 3):
            for nest in all_nests(size):
                far = steps_to_all(nest)
                for other in all_nests(size):
                    self.check(nest, other)
                    self.assertEqual(step_count(nest, other), far[format_nest(other)])
        nests = list(all_nests(4))
        for nest in random.Random(1).sample(nests, 4):
            far = steps_to_all(nest)
            self.assertEqual(len(far), 588)
            for other in nests[::3]:
                self.check(nest, other)
                self.assertEqual(step_count(nest, other), far[format_nest(other)])

    def test_sixteen_places(self):
        nests = [deep_nest(16), round_nest(16), chain_nest(16), Nest.loose(16)]
        nests += some_nests(16, 6, 2)
        for nest in nests:
            for other in nests:
                self.check(nest, other)

    def test_equal_and_unlike(self):
        for nest in [deep_nest(16), Nest.loose(1), NEST]:
            self.assertEqual(common_part(nest, nest).nodes, nest.nodes)
            self.assertEqual(fewest_steps(nest, nest), [])
            self.assertEqual(step_count(nest, nest), 0)
        down = parse_nest("0>1 1>2 2>3 3>-")
        up = chain_nest(4)
        self.assertEqual(common_part(down, up).nodes, Nest.loose(4).nodes)
        self.assertEqual(step_count(down, up), 6)
        self.assertEqual(step_count(round_nest(15), Nest.loose(15)), 15)

    def test_refuses(self):
        for function in (common_part, fewest_steps, step_count):
            self.refuses(BadSize, {"size": 3}, function, NEST, Nest.loose(3))
            self.refuses(BadSize, {"size": 5}, function, NEST, Nest.loose(5))
            self.refuses(BadSize, {"size": 16}, function, Nest.loose(1), Nest.loose(16))
