import itertools
import random

from tests.helpers import Case, all_nests, chain_nest, deep_nest, round_nest, some_nest
from tiedrings.closedranks import nth_closed
from tiedrings.errors import BadNest, BadPlace, BadSize
from tiedrings.extracting import take_out
from tiedrings.inserting import put_in
from tiedrings.nestcounts import count_closed
from tiedrings.nests import Nest
from tiedrings.nesttext import format_nest, parse_nest
from tiedrings.renaming import rename_nest

NEST = parse_nest("((0>1 1>0)>2 2>1)>- 3>2")
PAIR = parse_nest("(0>1 1>0)>-")


def plain_put_in(nest, place, inner, entrances):
    """The joined nest's pairs, node by node as point 44 tells it."""
    shift = nest.size - 1
    number = {}
    for old in range(nest.size):
        if old != place:
            number[old] = len(number)
    everybody = tuple(range(inner.size))
    left = list(entrances)
    pairs = {}
    for node, gate in nest.nodes:
        places = [number[x] for x in node if x != place]
        if place in node:
            places += [shift + q for q in everybody]
        if gate == place:
            gate = shift + left.pop(0)
        elif gate != -1:
            gate = number[gate]
        pairs[tuple(sorted(places))] = gate
    for node, gate in inner.nodes:
        if node != everybody:
            pairs[tuple(shift + q for q in node)] = shift + gate
    return shift + inner.size, list(pairs.items())


class PutInTest(Case):
    def agrees(self, nest, place, inner, entrances):
        joined = put_in(nest, place, inner, entrances)
        size, pairs = plain_put_in(nest, place, inner, entrances)
        self.assertEqual(joined.size, size)
        self.assertEqual(joined.nodes, Nest(size, pairs).nodes)
        return joined

    def test_by_hand(self):
        for nest, place, inner, entrances, text in (
            ("0>-", 0, "0>-", [], "0>-"), ("0>-", 0, "(0>1 1>0)>-", [], "(0>1 1>0)>-"),
            ("0>1 1>-", 0, "(0>1 1>0)>-", [], "0>- (1>2 2>1)>0"),
            ("0>1 1>-", 1, "(0>1 1>0)>-", [1], "0>2 (1>2 2>1)>-"),
            ("(0>1 1>0)>-", 0, "(0>1 1>0)>-", [0], "(0>1 (1>2 2>1)>0)>-"),
            ("(0>1 1>0)>2 2>- 3>2", 2, "(0>1 1>2 2>0)>-", [2, 0],
             "(0>1 1>0)>3 2>5 (3>4 4>5 5>3)>-"),
            ("(0>1 1>0)>2 2>- 3>2", 2, "0>-", [0, 0], "(0>1 1>0)>3 2>3 3>-"),
        ):
            joined = put_in(parse_nest(nest), place, parse_nest(inner), entrances)
            self.assertEqual(format_nest(joined), text)

    def test_small_nests(self):
        inners = [nth_closed(size, k) for size in (1, 2, 3) for k in range(count_closed(size))]
        for nest in [x for n in (1, 2, 3) for x in all_nests(n)]:
            for place in range(nest.size):
                led = [node for node, gate in nest.nodes if gate == place]
                for inner in inners:
                    ways = itertools.product(range(inner.size), repeat=len(led))
                    for entrances in itertools.islice(ways, 0, None, 2):
                        self.agrees(nest, place, inner, list(entrances))

    def test_sixteen_places(self):
        rng = random.Random(1)
        for _ in range(60):
            nest = some_nest(rng.randrange(1, 17), rng)
            size = 17 - nest.size
            inner = nth_closed(size, rng.randrange(count_closed(size)))
            place = rng.randrange(nest.size)
            led = [node for node, gate in nest.nodes if gate == place]
            joined = self.agrees(nest, place, inner, [rng.randrange(size) for _ in led])
            self.assertEqual(joined.size, 16)

    def test_edges(self):
        single = Nest.loose(1)
        joined = put_in(single, 0, deep_nest(16), [])
        self.assertEqual(joined.nodes, deep_nest(16).nodes)
        joined = put_in(deep_nest(16), 15, single, [0])
        self.assertEqual(joined.nodes, deep_nest(16).nodes)
        # One place in the place of another one is a renaming.
        joined = put_in(deep_nest(16), 0, single, [0] * 15)
        names = [15] + list(range(15))
        self.assertEqual(joined.nodes, rename_nest(deep_nest(16), names).nodes)
        joined = put_in(chain_nest(2), 1, round_nest(15), [])
        self.assertEqual(joined.size, 16)

    def test_taken_out_again(self):
        rng = random.Random(2)
        for _ in range(40):
            nest = some_nest(6, rng)
            inner = nth_closed(5, rng.randrange(count_closed(5)))
            place = rng.randrange(6)
            led = [node for node, gate in nest.nodes if gate == place]
            entrances = [rng.randrange(5) for _ in led]
            joined = put_in(nest, place, inner, entrances)
            outer, found, entered = take_out(joined, tuple(range(5, 10)))
            self.assertEqual(found.nodes, inner.nodes)
            self.assertEqual(sorted(entered), sorted(entrances))
            names = [x if x < place else x - 1 for x in range(6)]
            names[place] = 5
            self.assertEqual(outer.nodes, rename_nest(nest, names).nodes)

    def test_refuses(self):
        loose = Nest.loose(2)
        for place in (4, -1, 16):
            self.refuses(BadPlace, {"place": place}, put_in, NEST, place, loose, [9, 9, 9])
        for inner in (loose, parse_nest("0>1 1>-"), Nest.loose(16), chain_nest(14)):
            self.refuses(BadNest, {}, put_in, NEST, 1, inner, [9])
        great = round_nest(14)
        for entrances in ([], [9], [99, 99, 99]):
            number = {"size": len(entrances)}
            self.refuses(BadSize, number, put_in, NEST, 1, PAIR, entrances)
            self.refuses(BadSize, number, put_in, NEST, 1, great, entrances)
        self.refuses(BadPlace, {"place": 2}, put_in, NEST, 1, PAIR, [2, -1])
        self.refuses(BadPlace, {"place": -1}, put_in, NEST, 1, PAIR, [1, -1])
        self.refuses(BadPlace, {"place": 14}, put_in, NEST, 1, great, [13, 14])
        self.refuses(BadSize, {"size": 17}, put_in, NEST, 1, great, [13, 13])
        self.refuses(BadSize, {"size": 31}, put_in, deep_nest(16), 15, deep_nest(16), [0])
