import itertools
import random

from tests.helpers import (
    Case, all_nests, chain_nest, deep_nest, plain_seats, round_nest, shuffled, some_nests,
)
from tiedrings.errors import BadRooms, BadWishes
from tiedrings.flows import flow, gone_home
from tiedrings.nestcards import cards_of, walk_from
from tiedrings.nests import Nest
from tiedrings.nesttext import parse_nest
from tiedrings.rooming import spread_wishes
from tiedrings.treeview import ring_above

NEST = parse_nest("((0>1 1>0)>2 2>1)>-")


def walked_flow(nest, rooms, people):
    """Seats and passed gates, person by person and gate by gate."""
    walks = [list(walk_from(nest, place)) for place in range(nest.size)]
    sitting = [0] * nest.size
    passing = {node: 0 for node, _ in nest.nodes}
    for wish in people:
        place = wish
        for node, gate in walks[wish]:
            if sitting[place] < rooms[place]:
                break
            passing[node] += 1
            place = gate
        if place != -1:
            sitting[place] += 1
    told = []
    for node, _ in nest.nodes:
        above = ring_above(nest, node)
        hidden = False
        while above is not None:
            hidden = hidden or passing[above] > 0
            above = ring_above(nest, above)
        told.append(None if hidden else passing[node])
    return sitting, told


class FlowsTest(Case):
    def agrees(self, nest, rooms, wishes, orders):
        found = flow(nest, rooms, wishes)
        home = gone_home(nest, rooms, wishes)
        self.assertEqual(home, sum(wishes) - sum(found[0]))
        book = cards_of(nest)
        for people in orders:
            self.assertEqual(walked_flow(nest, rooms, people), found)
            seats = plain_seats(book, people, rooms)
            self.assertEqual([seats.count(place) for place in range(nest.size)], found[0])
            self.assertEqual(seats.count(-1), home)

    def test_example(self):
        self.assertEqual(
            flow(NEST, [1, 1, 1], [3, 0, 0]), ([1, 1, 1], [None, None, 0, 1, 0]))
        self.assertEqual(gone_home(NEST, [1, 1, 1], [3, 0, 0]), 0)

    def test_small_nests_in_all_orders(self):
        crowds = [list(wishes) for wishes in itertools.product(range(3), repeat=3)]
        rng = random.Random(1)
        for nest in all_nests(3):
            for wishes in rng.sample(crowds, 8):
                rooms = [rng.randrange(3) for _ in range(3)]
                orders = set(itertools.permutations(spread_wishes(wishes)))
                if len(orders) > 30:
                    orders = rng.sample(sorted(orders), 30)
                self.agrees(nest, rooms, wishes, orders)

    def test_one_and_two_places(self):
        for nest in list(all_nests(1)) + list(all_nests(2)):
            for rooms in itertools.product(range(3), repeat=nest.size):
                for wishes in itertools.product(range(4), repeat=nest.size):
                    people = spread_wishes(wishes)
                    orders = [people, list(reversed(people)), people[1:] + people[:1]]
                    self.agrees(nest, list(rooms), list(wishes), orders)

    def test_many_places_in_many_orders(self):
        rng = random.Random(2)
        special = [deep_nest(16), round_nest(16), chain_nest(16), Nest.loose(16)]
        for nest in list(all_nests(4))[::7] + some_nests(9, 60, 3) + some_nests(16, 40, 4) + special:
            for most in (2, 4, 30):
                rooms = [rng.choice([0, 1, most, rng.randint(0, most)]) for _ in range(nest.size)]
                wishes = [rng.choice([0, most, rng.randint(0, most)]) for _ in range(nest.size)]
                people = spread_wishes(wishes)
                orders = [people, list(reversed(people))]
                orders += [shuffled(people, rng) for _ in range(3)]
                self.agrees(nest, rooms, wishes, orders)

    def test_people_go_round_a_ring(self):
        nest = round_nest(4)
        self.assertEqual(
            flow(nest, [1, 1, 1, 1], [0, 0, 3, 0]), ([1, 0, 1, 1], [0, 0, 2, 1, 0]))
        self.assertEqual(
            flow(nest, [1, 1, 1, 1], [0, 0, 4, 0]), ([1, 1, 1, 1], [1, 0, 3, 2, 0]))
        self.assertEqual(
            flow(nest, [1, 1, 1, 1], [0, 0, 5, 0]), ([1, 1, 1, 1], [None] * 4 + [1]))

    def test_tops_that_lead_on(self):
        nest = parse_nest("0>1 1>2 2>-")
        self.assertEqual(flow(nest, [1, 1, 1], [4, 0, 0]), ([1, 1, 1], [3, 2, 1]))
        self.assertEqual(gone_home(nest, [1, 1, 1], [4, 0, 0]), 1)
        self.assertEqual(flow(nest, [1, 1, 1], [0, 0, 0]), ([0, 0, 0], [0, 0, 0]))
        nest = parse_nest("(0>1 1>0)>- 2>1")
        self.assertEqual(flow(nest, [2, 2, 1], [0, 0, 4]), ([1, 2, 1], [0, 1, 3, 0]))

    def test_none_inside_at_any_depth(self):
        nest = deep_nest(5)
        numbers = flow(nest, [1] * 5, [6, 0, 0, 0, 0])
        self.assertEqual(numbers, ([1] * 5, [None] * 8 + [1]))
        # Only the ring of 0 to 3 is full and passed.
        sitting, passing = flow(nest, [1, 1, 1, 1, 3], [6, 0, 0, 0, 0])
        self.assertEqual(sitting, [1, 1, 1, 1, 2])
        told = dict(zip([node for node, _ in nest.nodes], passing))
        self.assertEqual(told[(0, 1, 2, 3)], 2)
        self.assertEqual(told[(4,)], 0)
        self.assertEqual(told[(0, 1, 2, 3, 4)], 0)
        self.assertEqual([told[node] for node in told if 4 not in node and len(node) < 4], [None] * 6)

    def test_full_ring_that_nobody_leaves(self):
        nest = parse_nest("((0>1 1>0)>2 2>1)>-")
        self.assertEqual(flow(nest, [1, 1, 1], [0, 2, 1]), ([1, 1, 1], [0, 1, 0, 0, 0]))
        self.assertEqual(flow(nest, [0, 0, 0], [0, 0, 0]), ([0, 0, 0], [0, 0, 0, 0, 0]))
        self.assertEqual(
            flow(nest, [0, 0, 0], [0, 1, 0]), ([0, 0, 0], [None, None, None, None, 1]))

    def test_edges(self):
        one = Nest.loose(1)
        self.assertEqual(flow(one, [0], [0]), ([0], [0]))
        self.assertEqual(flow(one, [0], [30]), ([0], [30]))
        self.assertEqual(flow(one, [30], [30]), ([30], [0]))
        self.assertEqual(flow(one, [29], [30]), ([29], [1]))
        for nest in (deep_nest(16), round_nest(16), chain_nest(16), Nest.loose(16)):
            none = [0] * len(nest.nodes)
            self.assertEqual(flow(nest, [30] * 16, [30] * 16), ([30] * 16, none))
            self.assertEqual(flow(nest, [30] * 16, [0] * 16), ([0] * 16, none))
            self.assertEqual(gone_home(nest, [0] * 16, [30] * 16), 480)
            self.assertEqual(gone_home(nest, [30] * 16, [30] * 16), 0)
            self.assertEqual(flow(nest, [0] * 16, [30] * 16)[0], [0] * 16)
        self.assertEqual(
            flow(chain_nest(16), [0] * 16, [30] * 16)[1], [30 * (16 - k) for k in range(16)])

    def test_refuses(self):
        for function in (flow, gone_home):
            for rooms in ([], [1, 1], [1, 1, 1, 31]):
                self.refuses(BadRooms, {"place": -1}, function, NEST, rooms, [31])
            self.refuses(BadRooms, {"place": 1}, function, NEST, [30, 31, -1], [])
            self.refuses(BadRooms, {"place": 2}, function, NEST, [30, 0, -1], [0, 0, 0])
            for wishes in ([], [1, 1], [1, 1, 1, 31]):
                self.refuses(BadWishes, {"place": -1}, function, NEST, [0, 30, 1], wishes)
            self.refuses(BadWishes, {"place": 0}, function, NEST, [1, 1, 1], [31, -1, 0])
            self.refuses(BadWishes, {"place": 2}, function, NEST, [1, 1, 1], [30, 0, -1])
