import random

from tests.helpers import (
    Case, all_lists, all_nests, chain_nest, deep_nest, plain_stands, round_nest, shuffled, some_nests,
)
from tiedrings.errors import BadPlace
from tiedrings.feeding import feed_way, feeders, least_shutting, stand_by_feeders
from tiedrings.nestcards import cards_of
from tiedrings.nests import Nest
from tiedrings.nesttext import parse_nest
from tiedrings.treeview import ring_above, way_home

NEST = parse_nest("((0>1 1>0)>2 2>1)>-")


def plain_feeders(nest, goal):
    """The feeders, as point 37 tells them."""
    found = []
    for node, gate in nest.nodes:
        ring = ring_above(nest, node)
        if goal in node:
            continue
        if ring is None:
            leads = any(goal in top for top in way_home(nest, node[0]))
        else:
            leads = goal in ring
        if leads:
            found.append((node, gate))
    return found


class FeedersTest(Case):
    def test_examples(self):
        self.assertEqual(feeders(NEST, 1), [((0,), 1), ((2,), 1)])
        self.assertEqual(feeders(NEST, 2), [((0, 1), 2)])
        self.assertEqual(least_shutting(NEST, 0, 2), [0, 1])

    def test_by_hand(self):
        nest = parse_nest("(0>1 1>2 2>0)>3 3>- 4>2 5>-")
        self.assertEqual(feeders(nest, 0), [((1,), 2), ((2,), 0), ((4,), 2)])
        self.assertEqual(feed_way(nest, 0, 4), [(4,), (2,)])
        self.assertEqual(feed_way(nest, 0, 1), [(1,), (2,)])
        self.assertEqual(feed_way(nest, 0, 0), [])
        self.assertIsNone(feed_way(nest, 0, 3))
        self.assertIsNone(feed_way(nest, 0, 5))
        self.assertEqual(least_shutting(nest, 4, 0), [2, 4])
        self.assertEqual(feeders(nest, 3), [((4,), 2), ((0, 1, 2), 3)])
        self.assertEqual(feed_way(nest, 3, 4), [(4,), (0, 1, 2)])
        self.assertEqual(least_shutting(nest, 4, 3), [0, 1, 2, 4])
        self.assertEqual(stand_by_feeders(nest, [4, 2], 0), [0, 2, 4])
        self.assertEqual(stand_by_feeders(nest, [4, 1], 0), [0])
        self.assertEqual(feeders(nest, 5), [])
        self.assertIsNone(least_shutting(nest, 0, 5))
        self.assertEqual(least_shutting(nest, 5, 5), [])

    def test_against_the_telling(self):
        special = [deep_nest(16), round_nest(16), chain_nest(16), Nest.loose(16), Nest.loose(1)]
        for nest in [x for n in (1, 2, 3, 4) for x in all_nests(n)] + some_nests(16, 20, 1) + special:
            for goal in range(nest.size):
                found = feeders(nest, goal)
                self.assertEqual(found, plain_feeders(nest, goal))
                nodes = [node for node, _ in found]
                places = [place for node in nodes for place in node]
                self.assertEqual(len(set(places)), len(places))
                for place in range(nest.size):
                    way = feed_way(nest, goal, place)
                    if place == goal:
                        self.assertEqual(way, [])
                    elif place not in places:
                        self.assertIsNone(way)
                    else:
                        self.assertIn(place, way[0])
                        gates = [nest.gate_of(node) for node in way]
                        self.assertEqual(gates.pop(), goal)
                        self.assertTrue(all(g in node for g, node in zip(gates, way[1:])))
                        self.assertTrue(all(node in nodes for node in way))

    def test_all_shut_lists_of_small_nests(self):
        for nest in [x for n in (1, 2, 3) for x in all_nests(n)] + list(all_nests(4))[::3]:
            book = cards_of(nest)
            seen = [(shut, plain_stands(book, shut)) for shut in all_lists(range(nest.size))]
            for goal in range(nest.size):
                for shut, stands in seen:
                    if goal not in shut:
                        wanted = [x for x, stand in enumerate(stands) if stand == goal]
                        self.assertEqual(stand_by_feeders(nest, shut, goal), wanted)
                for place in range(nest.size):
                    least = least_shutting(nest, place, goal)
                    leading = [shut for shut, stands in seen if stands[place] == goal]
                    if not leading:
                        self.assertIsNone(least)
                        continue
                    self.assertIn(least, leading)
                    self.assertTrue(all(set(least) <= set(shut) for shut in leading))

    def test_sixteen_places(self):
        rng = random.Random(1)
        for nest in some_nests(16, 20, 2) + [deep_nest(16), round_nest(16), chain_nest(16)]:
            book = cards_of(nest)
            for _ in range(5):
                goal, *shut = shuffled(range(16), rng)[:rng.randrange(1, 17)]
                stands = plain_stands(book, shut)
                wanted = [x for x, stand in enumerate(stands) if stand == goal]
                self.assertEqual(stand_by_feeders(nest, shut, goal), wanted)
                place = rng.randrange(16)
                least = least_shutting(nest, place, goal)
                if least is not None:
                    self.assertEqual(plain_stands(book, least)[place], goal)

    def test_edges(self):
        for nest in (Nest.loose(1), Nest.loose(16)):
            self.assertEqual(feeders(nest, 0), [])
            self.assertEqual(stand_by_feeders(nest, [], 0), [0])
            self.assertEqual(stand_by_feeders(nest, list(range(1, nest.size)), 0), [0])
            self.assertEqual(least_shutting(nest, 0, 0), [])
        self.assertEqual(least_shutting(round_nest(16), 1, 0), list(range(1, 16)))
        self.assertEqual(least_shutting(deep_nest(16), 0, 15), list(range(15)))
        self.assertEqual(least_shutting(deep_nest(16), 15, 0), [15])
        self.assertEqual(least_shutting(chain_nest(16), 15, 0), list(range(1, 16)))
        self.assertEqual(stand_by_feeders(round_nest(16), list(range(1, 16)), 0), list(range(16)))

    def test_refuses(self):
        for place in (3, -1, 16):
            self.refuses(BadPlace, {"place": place}, feeders, NEST, place)
            self.refuses(BadPlace, {"place": place}, feed_way, NEST, place, 9)
            self.refuses(BadPlace, {"place": place}, feed_way, NEST, 0, place)
            self.refuses(BadPlace, {"place": place}, least_shutting, NEST, place, 9)
            self.refuses(BadPlace, {"place": place}, least_shutting, NEST, 0, place)
            self.refuses(BadPlace, {"place": place}, stand_by_feeders, NEST, [0], place)
            self.refuses(BadPlace, {"place": place}, stand_by_feeders, NEST, [0, place], 0)
        self.refuses(BadPlace, {"place": 1}, stand_by_feeders, NEST, [1, 1], 9)
        self.refuses(BadPlace, {"place": 1}, stand_by_feeders, NEST, [0, 1], 1)
