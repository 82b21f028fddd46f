import itertools
import random

from tests.helpers import (
    Case, all_nests, chain_nest, deep_nest, plain_seats, round_nest, shuffled, some_nests,
)
from tiedrings.chances import chances, sure_end
from tiedrings.errors import BadPlace, BadRooms, BadWishes
from tiedrings.nestcards import cards_of
from tiedrings.nests import Nest
from tiedrings.nesttext import parse_nest
from tiedrings.rooming import spread_wishes

NEST = parse_nest("((0>1 1>0)>2 2>1)>-")


def plain_ends(book, rooms, wishes, wish):
    """The ends after every part of the crowd; the order of its people makes no difference."""
    ends = set()
    for before in itertools.product(*[range(number + 1) for number in wishes]):
        ends.add(plain_seats(book, spread_wishes(before) + [wish], rooms)[-1])
    return ends


class ChancesTest(Case):
    def befores_hold(self, nest, rooms, wishes, wish, rng):
        """Walks to each end that is told; returns the ends."""
        book = cards_of(nest)
        found = chances(nest, rooms, wishes, wish)
        for end, before in found:
            self.assertEqual(len(before), nest.size)
            for number, most in zip(before, wishes):
                self.assertTrue(0 <= number <= most)
            for _ in range(2):
                people = shuffled(spread_wishes(before), rng)
                self.assertEqual(plain_seats(book, people + [wish], rooms)[-1], end)
        ends = [end for end, _ in found]
        self.assertTrue(ends)
        row = [wish] + book[wish] + [-1]
        self.assertEqual(ends, [place for place in row if place in ends])
        self.assertEqual(
            sure_end(nest, rooms, wishes, wish), ends[0] if len(ends) == 1 else None)
        return ends

    def test_example(self):
        found = chances(NEST, [1, 1, 1], [2, 0, 0], 0)
        self.assertEqual([end for end, _ in found], [0, 1, 2])
        self.assertIsNone(sure_end(NEST, [1, 1, 1], [2, 0, 0], 0))

    def test_by_hand(self):
        self.assertEqual(chances(NEST, [1, 1, 1], [0, 0, 0], 1), [(1, [0, 0, 0])])
        self.assertEqual(sure_end(NEST, [1, 1, 1], [0, 0, 0], 1), 1)
        self.assertEqual(sure_end(NEST, [0, 1, 1], [0, 0, 0], 0), 1)
        self.assertEqual(sure_end(NEST, [0, 0, 0], [0, 0, 0], 0), -1)
        self.assertEqual(chances(NEST, [0, 0, 0], [0, 0, 2], 0), [(-1, [0, 0, 2])])
        ends = [end for end, _ in chances(NEST, [1, 1, 1], [0, 1, 2], 2)]
        self.assertEqual(ends, [2, 1, 0, -1])
        # A place without rooms is passed, too.
        ends = [end for end, _ in chances(NEST, [1, 0, 2], [1, 0, 0], 0)]
        self.assertEqual(ends, [0, 2])
        # Place 0 is filled up only by people who come there past 1, so 1 is full by then.
        ends = [end for end, _ in chances(NEST, [2, 1, 1], [1, 0, 9], 0)]
        self.assertEqual(ends, [0, -1])

    def test_small_crowds_in_all_ways(self):
        rng = random.Random(1)
        for nest in list(all_nests(1)) + list(all_nests(2)) + list(all_nests(3)):
            book = cards_of(nest)
            for _ in range(12):
                rooms = [rng.randrange(3) for _ in range(nest.size)]
                wishes = [rng.randrange(4) for _ in range(nest.size)]
                for wish in range(nest.size):
                    ends = self.befores_hold(nest, rooms, wishes, wish, rng)
                    self.assertEqual(set(ends), plain_ends(book, rooms, wishes, wish))

    def test_four_and_five_places(self):
        rng = random.Random(2)
        for nest in list(all_nests(4))[::5] + some_nests(5, 60, 3):
            book = cards_of(nest)
            rooms = [rng.choice([0, 1, 1, 2]) for _ in range(nest.size)]
            wishes = [rng.choice([0, 1, 2]) for _ in range(nest.size)]
            wish = rng.randrange(nest.size)
            ends = self.befores_hold(nest, rooms, wishes, wish, rng)
            self.assertEqual(set(ends), plain_ends(book, rooms, wishes, wish))

    def test_sixteen_places(self):
        rng = random.Random(3)
        special = [deep_nest(16), round_nest(16), chain_nest(16), Nest.loose(16)]
        for nest in some_nests(16, 6, 4) + special:
            for most in (2, 30):
                rooms = [rng.choice([0, 1, most]) for _ in range(16)]
                wishes = [rng.choice([0, 1, most]) for _ in range(16)]
                self.befores_hold(nest, rooms, wishes, rng.randrange(16), rng)

    def test_edges(self):
        rng = random.Random(4)
        self.assertEqual(chances(Nest.loose(1), [0], [30], 0), [(-1, [30])])
        self.assertEqual(chances(Nest.loose(1), [30], [29], 0)[0][0], 0)
        self.assertEqual(sure_end(Nest.loose(1), [30], [29], 0), 0)
        self.assertIsNone(sure_end(Nest.loose(1), [30], [30], 0))
        for nest in (deep_nest(16), round_nest(16)):
            self.assertEqual(sure_end(nest, [0] * 16, [30] * 16, 3), -1)
            self.assertEqual(sure_end(nest, [30] * 16, [0] * 16, 3), 3)
            ends = self.befores_hold(nest, [30] * 16, [30] * 16, 3, rng)
            self.assertEqual(ends, [3] + cards_of(nest)[3] + [-1])

    def test_refuses(self):
        for function in (chances, sure_end):
            for rooms in ([], [1, 1], [1] * 4):
                self.refuses(BadRooms, {"place": -1}, function, NEST, rooms, [31], 9)
            self.refuses(BadRooms, {"place": 1}, function, NEST, [1, -1, 31], [], 9)
            self.refuses(BadWishes, {"place": -1}, function, NEST, [1, 1, 1], [1], 9)
            self.refuses(BadWishes, {"place": 2}, function, NEST, [1, 1, 1], [1, 1, 31], 9)
            for wish in (3, -1, 16):
                self.refuses(BadPlace, {"place": wish}, function, NEST, [1, 1, 1], [1, 1, 1], wish)
