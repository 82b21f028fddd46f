import itertools

from tests.helpers import Case, all_nests, chain_nest, deep_nest, round_nest, some_nests
from tiedrings.errors import BadSize, BadStep
from tiedrings.leading import lead, loosen
from tiedrings.nests import Nest
from tiedrings.nesttext import format_nest, parse_nest
from tiedrings.peeling import build, peel


def steps_from(nest):
    """The nests that one step makes of the nest, by trying all steps."""
    found = []
    for node, gate in nest:
        if node in nest.tops() and gate == -1:
            found.extend(lead(nest, node, goal) for goal in range(nest.size) if goal not in node)
        above = [ring for ring in nest.rings() if set(ring) > set(node)]
        held = above and (above[0] not in nest.tops() or nest.gate_of(above[0]) != -1)
        if gate != -1 and not held:
            found.append(loosen(nest, node))
    return found


def steps_to_all(start):
    """For each nest, by its text, the fewest steps from this one."""
    far = {format_nest(start): 0}
    layer = [start]
    for steps in itertools.count(1):
        following = {format_nest(nest): nest for old in layer for nest in steps_from(old)}
        layer = [nest for text, nest in following.items() if text not in far]
        far.update({format_nest(nest): steps for nest in layer})
        if not layer:
            return far


class PeelingTest(Case):
    def test_by_hand(self):
        self.assertEqual(
            peel(parse_nest("((0>1 1>0)>2 2>1)>- 3>-")),
            [("lead", (0,), 1), ("lead", (1,), 0), ("lead", (2,), 1), ("lead", (0, 1), 2)])
        self.assertEqual(peel(Nest.loose(16)), [])
        self.assertEqual(
            format_nest(build(3, [("lead", (2,), 0), ("lead", (0,), 2), ("lead", (0, 2), 1)])),
            "(0>2 2>0)>1 1>-")
        self.assertEqual(
            format_nest(build(2, [("lead", (0,), 1), ("loosen", (0,)), ("lead", (1,), 0)])), "0>- 1>0")

    def test_build_gives_back_the_nest(self):
        special = [deep_nest(16), round_nest(16), chain_nest(16), Nest.loose(1), Nest.loose(16)]
        for nest in [x for n in (1, 2, 3, 4) for x in all_nests(n)] + some_nests(16, 20, 1) + special:
            steps = peel(nest)
            self.assertEqual(len(steps), len([node for node, gate in nest if gate != -1]))
            self.assertEqual(build(nest.size, steps).nodes, nest.nodes)

    def test_no_fewer_steps(self):
        for size, number in ((1, 1), (2, 4), (3, 36), (4, 588)):
            far = steps_to_all(Nest.loose(size))
            self.assertEqual(len(far), number)
            for nest in all_nests(size):
                self.assertEqual(len(peel(nest)), far[format_nest(nest)])

    def test_refuses(self):
        for size in (0, 17, -1):
            self.refuses(BadSize, {"size": size}, build, size, [("walk",)])
        self.refuses(BadStep, {}, build, 2, [("lead", (0,), 0)])
        self.refuses(BadStep, {}, build, 2, [("lead", (0,), 1), ("walk", (0,))])
        self.refuses(BadStep, {}, build, 2, [("loosen", (0,))])
        self.assertEqual(build(2, []).nodes, Nest.loose(2).nodes)
