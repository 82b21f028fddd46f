import random

from tests.helpers import (
    Case, all_nests, chain_nest, deep_nest, plain_seats, round_nest, some_nests,
)
from tiedrings.errors import BadPlace, BadRooms, BadWishes
from tiedrings.growth import next_seat, seats_left, until_full
from tiedrings.nestcards import cards_of
from tiedrings.nests import Nest
from tiedrings.nesttext import parse_nest
from tiedrings.rooming import spread_wishes

NEST = parse_nest("((0>1 1>0)>2 2>1)>-")


class GrowthTest(Case):
    def agrees(self, nest, rooms, wishes, wish):
        """Compares with people who come one after another until nobody finds a seat."""
        book = cards_of(nest)
        crowd = spread_wishes(wishes)
        seats = plain_seats(book, crowd + [wish] * (sum(rooms) + 1), rooms)
        further = seats[len(crowd):]
        self.assertEqual(next_seat(nest, rooms, wishes, wish), further[0])
        self.assertEqual(
            seats_left(nest, rooms, wishes, wish), len([seat for seat in further if seat != -1]))
        for goal in range(nest.size):
            full = [
                number for number in range(len(further) + 1)
                if seats[:len(crowd) + number].count(goal) == rooms[goal]
            ]
            self.assertEqual(
                until_full(nest, rooms, wishes, wish, goal), full[0] if full else None)

    def test_by_hand(self):
        self.assertEqual(next_seat(NEST, [2, 1, 1], [1, 0, 0], 0), 0)
        self.assertEqual(next_seat(NEST, [2, 1, 1], [2, 0, 0], 0), 1)
        self.assertEqual(next_seat(NEST, [2, 1, 1], [4, 0, 0], 0), -1)
        self.assertEqual(seats_left(NEST, [2, 1, 1], [1, 0, 0], 0), 3)
        self.assertEqual(seats_left(NEST, [2, 1, 1], [9, 0, 0], 0), 0)
        self.assertEqual([until_full(NEST, [2, 1, 1], [1, 0, 0], 0, g) for g in (0, 1, 2)], [1, 2, 3])
        self.assertEqual([until_full(NEST, [2, 1, 1], [3, 0, 0], 0, g) for g in (0, 1, 2)], [0, 0, 1])

    def test_goal_off_the_card(self):
        nest = parse_nest("0>1 1>- 2>-")
        self.assertIsNone(until_full(nest, [1, 1, 1], [0, 0, 0], 0, 2))
        self.assertIsNone(until_full(nest, [1, 1, 1], [0, 0, 0], 1, 0))
        self.assertEqual(until_full(nest, [1, 1, 1], [0, 0, 1], 0, 2), 0)
        self.assertEqual(until_full(nest, [1, 1, 0], [0, 0, 0], 0, 2), 0)

    def test_small_nests(self):
        rng = random.Random(1)
        for nest in [x for n in (1, 2, 3) for x in all_nests(n)] + list(all_nests(4))[::9]:
            for _ in range(6):
                rooms = [rng.randrange(3) for _ in range(nest.size)]
                wishes = [rng.randrange(3) for _ in range(nest.size)]
                for wish in range(nest.size):
                    self.agrees(nest, rooms, wishes, wish)

    def test_sixteen_places(self):
        rng = random.Random(2)
        special = [deep_nest(16), round_nest(16), chain_nest(16), Nest.loose(16)]
        for nest in some_nests(16, 12, 3) + special:
            rooms = [rng.choice([0, 1, 2, 5]) for _ in range(16)]
            wishes = [rng.choice([0, 1, 3]) for _ in range(16)]
            self.agrees(nest, rooms, wishes, rng.randrange(16))

    def test_edges(self):
        one = Nest.loose(1)
        self.assertEqual(next_seat(one, [0], [0], 0), -1)
        self.assertEqual(seats_left(one, [30], [0], 0), 30)
        self.assertEqual(until_full(one, [30], [0], 0, 0), 30)
        self.assertEqual(until_full(one, [30], [30], 0, 0), 0)
        for nest in (deep_nest(16), round_nest(16)):
            self.assertEqual(seats_left(nest, [30] * 16, [0] * 16, 5), 480)
            self.assertEqual(seats_left(nest, [30] * 16, [30] * 16, 5), 0)
            self.assertEqual(until_full(nest, [30] * 16, [0] * 16, 5, cards_of(nest)[5][-1]), 480)
            self.assertEqual(next_seat(nest, [0] * 16, [30] * 16, 5), -1)

    def test_refuses(self):
        for function, more in ((next_seat, []), (seats_left, []), (until_full, [9])):
            self.refuses(BadRooms, {"place": -1}, function, NEST, [1] * 4, [31], 9, *more)
            self.refuses(BadRooms, {"place": 1}, function, NEST, [1, -1, 31], [], 9, *more)
            self.refuses(BadWishes, {"place": -1}, function, NEST, [1, 1, 1], [1], 9, *more)
            self.refuses(BadWishes, {"place": 2}, function, NEST, [1, 1, 1], [1, 1, 31], 9, *more)
            for wish in (3, -1, 16):
                self.refuses(
                    BadPlace, {"place": wish}, function, NEST, [1] * 3, [1] * 3, wish, *more)
        for goal in (3, -1, 16):
            self.refuses(
                BadPlace, {"place": goal}, until_full, NEST, [0] * 3, [1] * 3, 0, goal)
