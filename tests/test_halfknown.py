import itertools
import math
import random

from tests.helpers import (
    Case, all_lists, all_nests, chain_nest, deep_nest, plain_stands, round_nest, shuffled, some_nests,
    spoil,
)
from tiedrings.errors import BadChoice, BadNumber, BadPlace, NoWorld
from tiedrings.halfknown import HalfKnown
from tiedrings.leading import lead
from tiedrings.nestcards import cards_of
from tiedrings.nests import Nest
from tiedrings.nesttext import parse_nest

NEST = parse_nest("((1>0 0>1)>2 2>1)>- 3>2")


def same_way(nest, node, gate):
    """Tell whether the node may have this gate, as point 61 tells it."""
    own = nest.gate_of(node)
    if own == -1 or gate == -1:
        return own == gate
    around = [ring for ring, _ in nest if set(ring) > set(node)]
    inside = [n for n, _ in nest if own in n and not set(node) & set(n)]
    if around:
        inside = [n for n in inside if set(n) < set(around[0])]
    return gate in max(inside, key=len)


def plain_around(nest):
    """All valid choices."""
    return [
        [gate for gate in range(-1, nest.size) if same_way(nest, node, gate)] for node, _ in nest
    ]


def some_choices(nest, rng):
    """Some of the valid choices for each node."""
    return [
        sorted(rng.sample(row, rng.randint(1, len(row)))) for row in plain_around(nest)
    ]


def worlds_of(nest, choices):
    """All worlds, in the order of their numbers."""
    nodes = [node for node, _ in nest]
    return [Nest(nest.size, list(zip(nodes, gates))) for gates in itertools.product(*choices)]


def few_worlds(size, number, seed):
    """Pairs of a nest and choices that have at most 300 worlds."""
    rng = random.Random(seed)
    found = []
    while len(found) < number:
        nest = some_nests(size, 1, rng.random())[0]
        choices = some_choices(nest, rng)
        if math.prod(len(row) for row in choices) <= 300:
            found.append((nest, choices))
    return found


class ChoicesTest(Case):
    def test_around(self):
        nests = [x for n in (1, 2, 3, 4) for x in all_nests(n)] + some_nests(16, 20, 1)
        for nest in nests + [deep_nest(16), round_nest(16), chain_nest(16)]:
            half = HalfKnown.around(nest)
            self.assertEqual(half.choices, plain_around(nest))
            self.assertEqual(half.worlds, math.prod(len(row) for row in half.choices))
            self.assertEqual(half.size, nest.size)
            self.assertIsInstance(half, HalfKnown)
        self.assertEqual(
            HalfKnown.around(NEST).choices, [[1], [0], [0, 1], [0, 1, 2], [2], [-1]])

    def test_as_many_worlds_as_there_can_be(self):
        half = HalfKnown.around(parse_nest(
            "(0>1 1>2 2>0)>3 (3>4 4>5 5>3)>6 (6>7 7>8 8>6)>9 (9>10 10>11 11>9)>12"
            " (12>13 13>14 14>15 15>12)>-"))
        self.assertEqual(half.worlds, 3 * 3 * 3 * 4)
        half = HalfKnown.around(lead(side_ring(), (15,), 0))
        self.assertEqual(half.worlds, 15)
        # Each ring of rings leads to any place of the other one.
        deep = HalfKnown.around(deep_nest(16))
        self.assertEqual(deep.worlds, math.factorial(15))
        self.assertEqual(deep.world_number(deep.world(math.factorial(15) - 1)), math.factorial(15) - 1)
        stands = plain_stands(cards_of(deep_nest(16)), [15])
        self.assertEqual(deep.fits([15], stands), math.factorial(15) // 15)

    def test_own_gate_need_not_be_among_the_choices(self):
        half = HalfKnown(NEST, [[1], [0], [0], [0, 2], [2], [-1]])
        self.assertEqual(half.worlds, 2)
        self.assertIsNone(half.world_number(NEST))
        self.assertEqual(half.world(1).gate_of((2,)), 0)

    def test_refuses(self):
        good = [[1], [0], [0, 1], [0, 1, 2], [2], [-1]]
        for choices in ([], good[:-1], good + [[-1]], [[9]] * 5):
            self.refuses(BadChoice, {"places": ()}, HalfKnown, NEST, choices)
        for at, node, rows in (
            (0, (0,), ([], [0], [2], [-1], [1, 1], [-1, 1])), (1, (1,), ([1], [0, 2])),
            (2, (2,), ([1, 0], [0, 0], [0, 1, 2], [3], [0, 1, 1], [0, 4])),
            (3, (3,), ([-1], [0, 2, 1], [0, 1, 2, 3], [2, 2], [])), (4, (0, 1), ([0], [-1, 2], [3])),
            (5, (0, 1, 2), ([], [3], [-1, 3], [-1, -1])),
        ):
            for row in rows:
                bad = good[:at] + [row] + [[] for _ in good[at + 1:]]
                self.refuses(BadChoice, {"places": node}, HalfKnown, NEST, bad)
        self.assertEqual(HalfKnown(NEST, good).choices, good)
        self.refuses(BadChoice, {"places": ()}, HalfKnown, Nest.loose(1), [])
        self.refuses(BadChoice, {"places": (0,)}, HalfKnown, Nest.loose(1), [[0]])


def side_ring():
    """A ring of 15 places, and a single."""
    nodes = [((place,), (place + 1) % 15) for place in range(15)]
    return Nest(16, nodes + [(tuple(range(15)), -1), ((15,), -1)])


class LooksTest(Case):
    def fitting(self, worlds, shut, stands):
        return [nest for nest in worlds if plain_stands(cards_of(nest), shut) == stands]

    def check_look(self, nest, choices, shut, stands):
        half = HalfKnown(nest, choices)
        worlds = self.fitting(worlds_of(nest, choices), shut, stands)
        self.assertEqual(half.fits(shut, stands), len(worlds))
        self.assertEqual(half.choices, choices)
        if not worlds:
            self.refuses(NoWorld, {}, half.see, shut, stands)
            self.assertEqual(half.choices, choices)
            return
        self.assertEqual(half.see(shut, stands), len(worlds))
        self.assertEqual(half.worlds, len(worlds))
        left = [half.world(number).nodes for number in range(half.worlds)]
        self.assertEqual(left, [world.nodes for world in worlds])

    def test_looks_at_worlds(self):
        rng = random.Random(1)
        for size, number in ((1, 2), (2, 8), (3, 25), (4, 25), (5, 15)):
            for nest, choices in few_worlds(size, number, size):
                worlds = worlds_of(nest, choices)
                for shut in all_lists(range(size)):
                    # What is seen in some world, and what is seen nowhere or in other worlds only.
                    seen = plain_stands(cards_of(rng.choice(worlds)), shut)
                    self.check_look(nest, choices, shuffled(shut, rng), seen)
                    wrong = list(seen)
                    wrong[rng.randrange(size)] = rng.randrange(-1, size)
                    self.check_look(nest, choices, shut, wrong)
                    away = plain_stands(cards_of(worlds_of(nest, plain_around(nest))[-1]), shut)
                    self.check_look(nest, choices, shut, away)

    def test_all_stands_of_small_nests(self):
        for nest in list(all_nests(2)) + list(all_nests(3))[::3]:
            choices = plain_around(nest)
            for shut in all_lists(range(nest.size)):
                for stands in itertools.product(range(-1, nest.size), repeat=nest.size):
                    self.check_look(nest, choices, shut, list(stands))

    def test_looks_in_any_order(self):
        rng = random.Random(2)
        for nest, choices in few_worlds(5, 30, 3):
            world = rng.choice(worlds_of(nest, choices))
            looks = [shuffled(range(5), rng)[:rng.randrange(6)] for _ in range(4)]
            first, second = HalfKnown(nest, choices), HalfKnown(nest, choices)
            for shut in looks:
                first.see(shut, plain_stands(cards_of(world), shut))
            for shut in reversed(looks):
                second.see(shut, plain_stands(cards_of(world), shut))
            self.assertEqual(first.choices, second.choices)
            self.assertIsNotNone(first.world_number(world))

    def test_by_hand(self):
        half = HalfKnown.around(parse_nest("((1>0 0>1)>2 2>1)>-"))
        self.assertEqual((half.choices, half.worlds), ([[1], [0], [0, 1], [2], [-1]], 2))
        self.assertEqual(half.ends(2, [2]), [(0, 1), (1, 1)])
        self.assertEqual(half.see([2], [0, 1, 1]), 1)
        self.assertEqual(half.choices, [[1], [0], [1], [2], [-1]])
        self.refuses(NoWorld, {}, half.see, [2], [0, 1, 0])
        self.assertEqual(half.fits([2], [0, 1, 0]), 0)
        self.assertEqual((half.worlds, half.choices[2]), (1, [1]))

    def test_refused_looks_change_nothing(self):
        half = HalfKnown.around(NEST)
        before = half.choices
        for shut, stands in (
            ([2], [0, 1, 1]), ([2], [0, 1, 1, 3, 3]), ([2], []), ([2], [0, 1, 4, 3]),
            ([2], [0, 1, -2, 3]), ([2], [1, 1, 1, 3]), ([2], [0, 1, 3, 3]), ([], [0, 1, 2, 2]),
            ([3, 2], [0, 1, 1, -1]), ([2], [0, 1, 2, 3]), ([0, 1], [3, 3, 2, 3]),
            ([0, 1, 2], [-1, -1, 3, 3]), ([0, 1], [2, -1, 2, 3]), ([3], [0, 1, 2, 99]),
        ):
            self.refuses(NoWorld, {}, half.see, shut, stands)
            self.assertEqual(half.fits(shut, stands), 0)
            self.assertEqual(half.choices, before)
        self.assertEqual(half.see([], [0, 1, 2, 3]), 6)
        self.assertEqual(half.choices, before)
        for method in (half.see, half.fits):
            self.refuses(BadPlace, {"place": 4}, method, [2, 4, -1], [])
            self.refuses(BadPlace, {"place": 2}, method, [2, 2], [0, 1, 1, 3])
            self.refuses(BadPlace, {"place": -1}, method, [-1], [0, 1, 1, 3])


class EndsTest(Case):
    def check_ends(self, half, worlds, place, shut):
        seen = [plain_stands(cards_of(nest), shut)[place] for nest in worlds]
        wanted = [(end, seen.count(end)) for end in sorted(set(seen))]
        self.assertEqual(half.ends(place, shut), wanted)
        for end in range(-1, half.size):
            share = half.share(place, shut, end)
            self.assertEqual(math.gcd(*share), 1)
            self.assertEqual(share[0] * len(worlds), share[1] * seen.count(end))
            self.assertGreater(share[1], 0)
        if len(wanted) == 1:
            self.assertEqual(half.sure(place, shut), seen[0])
            self.assertIsNone(half.part(place, shut))
            return
        self.assertIsNone(half.sure(place, shut))
        pair = half.part(place, shut)
        self.assertIsInstance(pair, tuple)
        first, second = [plain_stands(cards_of(nest), shut)[place] for nest in pair]
        self.assertNotEqual(first, second)
        for nest in pair:
            self.assertIn(nest.nodes, [world.nodes for world in worlds])

    def test_by_all_worlds(self):
        rng = random.Random(4)
        for size, number in ((1, 2), (2, 6), (3, 20), (4, 20), (5, 10), (6, 6)):
            for nest, choices in few_worlds(size, number, size + 10):
                half, worlds = HalfKnown(nest, choices), worlds_of(nest, choices)
                for shut in all_lists(range(size)):
                    for place in range(size):
                        self.check_ends(half, worlds, place, shuffled(shut, rng))

    def test_after_looks(self):
        rng = random.Random(5)
        for nest, choices in few_worlds(5, 12, 6):
            half, worlds = HalfKnown(nest, choices), worlds_of(nest, choices)
            shut = shuffled(range(5), rng)[:3]
            stands = plain_stands(cards_of(rng.choice(worlds)), shut)
            half.see(shut, stands)
            left = [world for world in worlds if plain_stands(cards_of(world), shut) == stands]
            for other in all_lists(range(5)):
                for place in range(5):
                    self.check_ends(half, left, place, other)

    def test_sixteen_places(self):
        rng = random.Random(7)
        for nest in some_nests(16, 15, 8) + [deep_nest(16), round_nest(16), chain_nest(16)]:
            half = HalfKnown.around(nest)
            for _ in range(6):
                shut = shuffled(range(16), rng)[:rng.randrange(17)]
                place = rng.randrange(16)
                ends = half.ends(place, shut)
                self.assertEqual(sum(weight for _, weight in ends), half.worlds)
                for world in half.part(place, shut) or ():
                    end = plain_stands(cards_of(world), shut)[place]
                    self.assertIn(end, dict(ends))
                    self.assertIsNotNone(half.world_number(world))
        half = HalfKnown.around(deep_nest(16))
        self.assertEqual(half.share(15, [15], 3), (1, 15))
        self.assertEqual(half.ends(15, [15]), [
            (end, math.factorial(15) // 15) for end in range(15)])

    def test_refuses(self):
        half = HalfKnown.around(NEST)
        for method, more in (
            (half.ends, ()), (half.sure, ()), (half.part, ()), (half.share, (9,)),
        ):
            self.refuses(BadPlace, {"place": 4}, method, 4, [9], *more)
            self.refuses(BadPlace, {"place": -1}, method, -1, [9], *more)
            self.refuses(BadPlace, {"place": 9}, method, 0, [9], *more)
            self.refuses(BadPlace, {"place": 1}, method, 0, [1, 1], *more)
        for end in (4, -2, 16):
            self.refuses(BadPlace, {"place": end}, half.share, 0, [1], end)
        self.assertEqual(half.share(0, [1], -1), (0, 1))
        self.assertEqual(half.share(3, [3], 0), (1, 3))
        self.assertEqual(half.share(0, [0], 1), (1, 1))


class NumbersTest(Case):
    def test_numbers_both_ways(self):
        for size, number in ((1, 2), (2, 6), (3, 20), (4, 20), (6, 10)):
            for nest, choices in few_worlds(size, number, size + 20):
                half = HalfKnown(nest, choices)
                for at, world in enumerate(worlds_of(nest, choices)):
                    self.assertEqual(half.world(at).nodes, world.nodes)
                    self.assertEqual(half.world_number(world), at)

    def test_after_looks(self):
        half = HalfKnown.around(NEST)
        self.assertEqual([half.world(at).gate_of((3,)) for at in range(6)], [0, 1, 2, 0, 1, 2])
        half.see([3], [0, 1, 2, 1])
        self.assertEqual(half.worlds, 2)
        self.assertEqual([half.world(at).gate_of((2,)) for at in range(2)], [0, 1])
        self.assertIsNone(half.world_number(NEST))
        self.assertEqual(half.world_number(half.world(1)), 1)
        self.refuses(BadNumber, {"number": 2}, half.world, 2)

    def test_what_is_no_world(self):
        half = HalfKnown.around(NEST)
        for nest in (
            Nest.loose(4), Nest.loose(3), parse_nest("((1>0 0>1)>2 2>1)>-"), round_nest(4),
            parse_nest("((1>0 0>1)>2 2>1)>- 3>-"), parse_nest("((1>2 2>1)>0 0>1)>- 3>2"),
            parse_nest("((1>0 0>1)>2 2>1)>- 3>2 4>-"), parse_nest("((1>0 0>1)>2 2>1)>3 3>-"),
        ):
            self.assertIsNone(half.world_number(nest))
        self.assertEqual(half.world_number(NEST), 5)

    def test_refuses(self):
        half = HalfKnown.around(NEST)
        for number in (-1, 6, 100):
            self.refuses(BadNumber, {"number": number}, half.world, number)
        one = HalfKnown.around(Nest.loose(16))
        self.assertEqual(one.world(0).nodes, Nest.loose(16).nodes)
        self.refuses(BadNumber, {"number": 1}, one.world, 1)


class CopiesTest(Case):
    def test_lists_are_copied(self):
        choices = [[1], [0], [0, 1], [0, 1, 2], [2], [-1]]
        half = HalfKnown(NEST, choices)
        wanted = half.choices
        spoil(choices)
        spoil(half.choices)
        self.assertEqual(half.choices, wanted)
        shut, stands = [2], [0, 1, 1, 3]
        half.see(shut, stands)
        self.assertEqual((shut, stands), ([2], [0, 1, 1, 3]))
        wanted, ends = half.choices, half.ends(3, [3])
        spoil(half.choices)
        spoil(half.ends(3, [3]))
        spoil(half.world(0).nodes)
        half.fits([3], [0, 1, 2, 0])
        half.part(3, [3])
        self.assertEqual((half.choices, half.ends(3, [3])), (wanted, ends))
