import itertools
import random

from tests.helpers import (
    Case, all_lists, all_nests, chain_nest, deep_nest, plain_stands, round_nest, some_nests,
)
from tiedrings.errors import BadPlace
from tiedrings.meeting import meet
from tiedrings.nestcards import cards_of
from tiedrings.nests import Nest
from tiedrings.nesttext import parse_nest

NEST = parse_nest("((0>1 1>0)>2 2>1)>- 3>-")


class MeetingTest(Case):
    def agrees(self, nest, seen, places):
        """Compares with all lists of shut places, shortest first."""
        met = [
            (len(shut), stands[places[0]], shut) for shut, stands in seen
            if stands[places[0]] != -1 and len({stands[place] for place in places}) == 1
        ]
        wanted = (min(met)[1], min(met)[2]) if met else None
        self.assertEqual(meet(nest, *places), wanted)
        for goal in range(nest.size):
            there = [entry for entry in met if entry[1] == goal]
            wanted = (goal, min(there)[2]) if there else None
            self.assertEqual(meet(nest, *places, meet_at=goal), wanted)

    def test_by_hand(self):
        self.assertEqual(meet(NEST, 0, 1), (0, [1]))
        self.assertEqual(meet(NEST, 0, 2), (0, [1, 2]))
        self.assertEqual(meet(NEST, 1, 2), (1, [2]))
        self.assertEqual(meet(NEST, 0, 1, 2), (0, [1, 2]))
        self.assertEqual(meet(NEST, 0, 1, 2, meet_at=1), (1, [0, 2]))
        self.assertEqual(meet(NEST, 0, 1, 2, meet_at=2), (2, [0, 1]))
        self.assertEqual(meet(NEST, 0, 2, meet_at=0), (0, [1, 2]))
        self.assertEqual(meet(NEST, 3), (3, []))
        self.assertIsNone(meet(NEST, 3, 0))
        self.assertIsNone(meet(NEST, 0, 1, meet_at=3))
        self.assertIsNone(meet(NEST, 3, meet_at=0))
        self.assertEqual(meet(NEST, 2, 1, 0), meet(NEST, 0, 1, 2))

    def test_least_goal_of_several(self):
        nest = parse_nest("(0>1 1>0)>-")
        self.assertEqual(meet(nest, 0, 1), (0, [1]))
        self.assertEqual(meet(nest, 1, 0), (0, [1]))
        self.assertEqual(meet(parse_nest("0>- 1>0 2>0"), 1, 2), (0, [1, 2]))
        # A goal of one's own folk, with fewer shuttings, comes before a lesser goal.
        self.assertEqual(meet(parse_nest("0>- 1>0 2>1"), 1, 2), (1, [2]))

    def test_small_nests_by_all_lists(self):
        for nest in [x for n in (1, 2, 3) for x in all_nests(n)] + list(all_nests(4))[::4]:
            book = cards_of(nest)
            seen = [(shut, plain_stands(book, shut)) for shut in all_lists(range(nest.size))]
            for places in all_lists(range(nest.size)):
                if places:
                    self.agrees(nest, seen, places)
                    self.agrees(nest, seen, list(reversed(places)))

    def test_more_places(self):
        rng = random.Random(1)
        for nest in some_nests(7, 12, 2):
            book = cards_of(nest)
            seen = [(shut, plain_stands(book, shut)) for shut in all_lists(range(7))]
            for number in (1, 2, 3, 7):
                self.agrees(nest, seen, rng.sample(range(7), number))

    def test_edges(self):
        self.assertEqual(meet(Nest.loose(1), 0), (0, []))
        self.assertEqual(meet(Nest.loose(1), 0, meet_at=0), (0, []))
        for x, y in itertools.combinations(range(16), 2):
            self.assertIsNone(meet(Nest.loose(16), x, y))
        everybody = list(range(16))
        self.assertEqual(meet(round_nest(16), *everybody), (0, everybody[1:]))
        self.assertEqual(meet(round_nest(16), *everybody, meet_at=9)[1], [
            x for x in everybody if x != 9])
        self.assertEqual(meet(chain_nest(16), *everybody), (0, everybody[1:]))
        self.assertEqual(meet(deep_nest(16), *everybody), (0, everybody[1:]))
        self.assertEqual(meet(deep_nest(16), *everybody, meet_at=15), (15, everybody[:15]))

    def test_refuses(self):
        self.refuses(BadPlace, {"place": 4}, meet, NEST, 4, -1, meet_at=9)
        self.refuses(BadPlace, {"place": -1}, meet, NEST, 1, -1, 1, meet_at=9)
        self.refuses(BadPlace, {"place": 1}, meet, NEST, 1, 1, 4, meet_at=9)
        self.refuses(BadPlace, {"place": 0}, meet, NEST, 0, 3, 0)
        for goal in (4, -1, 16):
            self.refuses(BadPlace, {"place": goal}, meet, NEST, 3, 0, meet_at=goal)
