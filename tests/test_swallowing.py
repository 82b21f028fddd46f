import itertools
import random

from tests.helpers import (
    Case, all_nests, chain_nest, deep_nest, plain_swallow, round_nest, shuffled, some_nests,
)
from tiedrings.errors import BadPlace, BadRooms, BadWishes
from tiedrings.nestcards import cards_of
from tiedrings.nests import Nest
from tiedrings.nesttext import parse_nest
from tiedrings.rooming import spread_wishes
from tiedrings.swallowing import swallow

NEST = parse_nest("((0>1 1>0)>2 2>1)>-")


class SwallowingTest(Case):
    def test_by_hand(self):
        self.assertEqual(swallow(NEST, [1, 1, 1], [3, 0, 0], 1), [1, 2, 0])
        self.assertEqual(swallow(NEST, [1, 1, 1], [3, 0, 0], 2), [1, 1, 1])
        self.assertEqual(swallow(NEST, [1, 1, 1], [3, 0, 0], 0), [3, 0, 0])
        self.assertEqual(swallow(NEST, [0, 0, 0], [2, 1, 1], 2), [0, 0, 4])
        self.assertEqual(swallow(NEST, [0, 30, 0], [2, 1, 1], 0), [2, 2, 0])

    def test_rooms_of_the_goal_do_not_count(self):
        for number in (0, 1, 30):
            self.assertEqual(swallow(NEST, [1, number, 1], [9, 0, 0], 1), [1, 8, 0])

    def test_small_nests(self):
        rng = random.Random(1)
        for nest in list(all_nests(1)) + list(all_nests(2)) + list(all_nests(3)):
            book = cards_of(nest)
            for _ in range(6):
                rooms = [rng.randrange(3) for _ in range(nest.size)]
                wishes = [rng.randrange(3) for _ in range(nest.size)]
                people = spread_wishes(wishes)
                for goal in range(nest.size):
                    found = swallow(nest, rooms, wishes, goal)
                    for order in itertools.islice(itertools.permutations(people), 0, 720, 37):
                        self.assertEqual(plain_swallow(book, order, rooms, goal), found)

    def test_many_places_in_many_orders(self):
        rng = random.Random(2)
        special = [deep_nest(16), round_nest(16), chain_nest(16), Nest.loose(16)]
        for nest in list(all_nests(4))[::11] + some_nests(16, 20, 4) + special:
            book = cards_of(nest)
            for most in (2, 30):
                rooms = [rng.choice([0, 1, most, rng.randint(0, most)]) for _ in range(nest.size)]
                wishes = [rng.choice([0, most, rng.randint(0, most)]) for _ in range(nest.size)]
                people = spread_wishes(wishes)
                goal = rng.randrange(nest.size)
                found = swallow(nest, rooms, wishes, goal)
                for order in (people, list(reversed(people)), shuffled(people, rng)):
                    self.assertEqual(plain_swallow(book, order, rooms, goal), found)

    def test_edges(self):
        self.assertEqual(swallow(Nest.loose(1), [0], [30], 0), [30])
        self.assertEqual(swallow(Nest.loose(1), [30], [0], 0), [0])
        for nest in (deep_nest(16), round_nest(16)):
            self.assertEqual(swallow(nest, [0] * 16, [30] * 16, 7), [0] * 7 + [480] + [0] * 8)
            self.assertEqual(swallow(nest, [30] * 16, [30] * 16, 7), [30] * 16)
            self.assertEqual(swallow(nest, [30] * 16, [0] * 16, 7), [0] * 16)

    def test_refuses(self):
        for rooms in ([], [1, 1], [1] * 4):
            self.refuses(BadRooms, {"place": -1}, swallow, NEST, rooms, [31], 9)
        self.refuses(BadRooms, {"place": 1}, swallow, NEST, [1, -1, 31], [], 9)
        self.refuses(BadWishes, {"place": -1}, swallow, NEST, [1, 1, 1], [1], 9)
        self.refuses(BadWishes, {"place": 2}, swallow, NEST, [1, 1, 1], [1, 1, 31], 9)
        for goal in (3, -1, 16):
            self.refuses(BadPlace, {"place": goal}, swallow, NEST, [1, 1, 1], [1, 1, 1], goal)
