import itertools

from tests.helpers import Case, all_nests, chain_nest, deep_nest, round_nest, some_nests
from tiedrings.errors import BadStep
from tiedrings.leading import do_steps, lead, loosen
from tiedrings.nests import Nest
from tiedrings.nesttext import format_nest, parse_nest

NEST = parse_nest("((0>1 1>0)>2 2>1)>- 3>-")


def plain_lead(nest, places, goal):
    """The gates after leading, as point 46 tells it, or None."""
    gates = dict(nest.nodes)
    if places not in nest.tops() or gates[places] != -1:
        return None
    if goal not in range(nest.size) or goal in places:
        return None
    gates[places] = goal
    top_of = {place: top for top in nest.tops() for place in top}
    circle = [places, top_of[goal]]
    while circle[-1] != places and gates[circle[-1]] != -1:
        circle.append(top_of[gates[circle[-1]]])
    if circle[-1] == places:
        gates[tuple(sorted({place for top in circle for place in top}))] = -1
    return gates


def plain_loosen(nest, places):
    """The gates after loosening, as point 46 tells it, or None."""
    gates = dict(nest.nodes)
    if gates.get(places, -1) == -1:
        return None
    above = [node for node in gates if set(node) > set(places)]
    if above:
        ring = min(above, key=len)
        if ring not in nest.tops() or gates[ring] != -1:
            return None
        del gates[ring]
    gates[places] = -1
    return gates


class LeadingTest(Case):
    def test_by_hand(self):
        for nest, places, goal, text in (
            (NEST, (3,), 0, "((0>1 1>0)>2 2>1)>- 3>0"),
            (NEST, (0, 1, 2), 3, "((0>1 1>0)>2 2>1)>3 3>-"),
            (Nest.loose(2), (1,), 0, "0>- 1>0"),
            (parse_nest("0>- 1>0"), (0,), 1, "(0>1 1>0)>-"),
            (parse_nest("(0>1 1>0)>2 2>3 3>-"), (3,), 1, "((0>1 1>0)>2 2>3 3>1)>-"),
            (parse_nest("0>3 1>- 2>1 3>1"), (1,), 2, "0>3 (1>2 2>1)>- 3>1"),
        ):
            self.assertEqual(format_nest(lead(nest, places, goal)), text)
        for nest, places, text in (
            (NEST, (0, 1), "(0>1 1>0)>- 2>1 3>-"), (NEST, (2,), "(0>1 1>0)>2 2>- 3>-"),
            (parse_nest("0>- 1>0"), (1,), "0>- 1>-"),
            (parse_nest("(0>1 1>0)>2 2>-"), (0, 1), "(0>1 1>0)>- 2>-"),
            (parse_nest("(0>1 1>2 2>0)>- 3>2"), (1,), "0>1 1>- 2>0 3>2"),
        ):
            self.assertEqual(format_nest(loosen(nest, places)), text)

    def steps_agree(self, nest):
        """Tries all tuples of places as nodes, and all goals from -2 on."""
        tuples = [
            places for length in range(nest.size + 1)
            for places in itertools.combinations(range(nest.size), length)
        ]
        for places in tuples + [(nest.size,), (-1,)]:
            for goal in range(-2, nest.size + 2):
                wanted = plain_lead(nest, places, goal)
                if wanted is None:
                    self.refuses(BadStep, {}, lead, nest, places, goal)
                    continue
                led = lead(nest, places, goal)
                self.assertEqual(dict(led.nodes), wanted)
                self.assertEqual(loosen(led, places).nodes, nest.nodes)
            wanted = plain_loosen(nest, places)
            if wanted is None:
                self.refuses(BadStep, {}, loosen, nest, places)
            else:
                loose = loosen(nest, places)
                self.assertEqual(dict(loose.nodes), wanted)
                self.assertEqual(lead(loose, places, nest.gate_of(places)).nodes, nest.nodes)

    def test_small_nests(self):
        for nest in [x for n in (1, 2, 3) for x in all_nests(n)] + list(all_nests(4))[::7]:
            nodes = nest.nodes
            self.steps_agree(nest)
            self.assertEqual(nest.nodes, nodes)

    def test_greater_nests(self):
        for nest in some_nests(6, 6, 1) + [deep_nest(5), round_nest(6)]:
            self.steps_agree(nest)

    def test_sixteen_places(self):
        ring = tuple(range(16))
        nest = lead(chain_nest(16), (0,), 15)
        self.assertEqual(nest.gate_of(ring), -1)
        self.assertEqual(nest.gate_of((0,)), 15)
        self.assertEqual(loosen(nest, (0,)).nodes, chain_nest(16).nodes)
        self.assertEqual(len(loosen(round_nest(16), (7,)).tops()), 16)
        opened = loosen(deep_nest(16), (15,))
        self.assertEqual(opened.tops(), [tuple(range(15)), (15,)])
        self.refuses(BadStep, {}, loosen, deep_nest(16), (14,))
        self.refuses(BadStep, {}, lead, round_nest(16), ring, 0)
        self.refuses(BadStep, {}, lead, Nest.loose(1), (0,), 0)

    def test_inner_nodes_are_held(self):
        led = parse_nest("(0>1 1>0)>2 2>-")
        # The ring leads to a place, so its members cannot be loosened.
        self.refuses(BadStep, {}, loosen, led, (0,))
        self.refuses(BadStep, {}, loosen, NEST, (0,))
        self.refuses(BadStep, {}, lead, NEST, (0, 1), 3)
        self.refuses(BadStep, {}, lead, led, (0, 1), 2)
        self.refuses(BadStep, {}, lead, NEST, (0, 1, 2), 1)


class StepsTest(Case):
    def test_steps_in_order(self):
        steps = [("lead", (1,), 0), ("lead", (0,), 1), ("lead", (0, 1), 2), ("loosen", (0, 1))]
        texts = ["0>- 1>0 2>-", "(0>1 1>0)>- 2>-", "(0>1 1>0)>2 2>-", "(0>1 1>0)>- 2>-"]
        for many, text in enumerate(texts):
            self.assertEqual(format_nest(do_steps(Nest.loose(3), steps[:many + 1])), text)
        self.assertEqual(do_steps(NEST, []).nodes, NEST.nodes)

    def test_refuses(self):
        for steps in (
            [("lead", (0,), 0)], [("lead", (0,), -1)], [("lead", (0,), 4)], [("lead", (), 0)],
            [("lead", (0, 1), 2)], [("lead", (1, 0), 3)], [("loosen", (3,))], [("loosen", (9,))],
            [("lead", (3,), 0), ("lead", (3,), 1)], [("lead", (3,), 0), ("loosen", (0,))],
            [("tie", (3,), 0)], [("Lead", (3,), 0)], [("", (3,))], [("undo",)],
            [("lead", (3,), 0), ("walk", (3,), 0), ("lead", (9,), 0)],
        ):
            self.refuses(BadStep, {}, do_steps, NEST, steps)
        self.assertEqual(format_nest(NEST), "((0>1 1>0)>2 2>1)>- 3>-")
