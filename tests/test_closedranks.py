import random

from tests.helpers import Case, all_nests, deep_nest, round_nest, some_nests
from tiedrings.closedranks import closed_number, nth_closed
from tiedrings.errors import BadNest, BadNumber, BadSize
from tiedrings.nestcounts import count_closed
from tiedrings.nests import Nest
from tiedrings.nesttext import format_nest, parse_nest
from tiedrings.treeview import members_of


def closed_key(nest, node):
    """The terms of point 26 one after another: numbers are in the order of these keys."""
    members = members_of(nest, node)
    key = []
    for at, member in enumerate(members):
        entrance = nest.gate_of(members[at - 1])
        key.append((len(member), member, closed_key(nest, member), member.index(entrance)))
    return key


def key_of(nest):
    return closed_key(nest, nest.tops()[0])


class ClosedRanksTest(Case):
    def test_all_small_nests(self):
        for size in range(1, 5):
            closed = [nest for nest in all_nests(size) if len(nest.tops()) == 1]
            closed = sorted(closed, key=key_of)
            for number, nest in enumerate(closed):
                self.assertEqual(closed_number(nest), number)
                self.assertEqual(nth_closed(size, number).nodes, nest.nodes)
            self.assertEqual(count_closed(size), len(closed))

    def test_five_places(self):
        keys = []
        for number in range(count_closed(5)):
            nest = nth_closed(5, number)
            self.assertEqual(closed_number(nest), number)
            keys.append(key_of(nest))
        self.assertTrue(all(low < high for low, high in zip(keys, keys[1:])))

    def test_three_places(self):
        self.assertEqual(
            [format_nest(nth_closed(3, number)) for number in range(8)],
            [
                "(0>1 1>2 2>0)>-", "(0>2 2>1 1>0)>-",
                "(0>1 (1>2 2>1)>0)>-", "(0>2 (1>2 2>1)>0)>-",
                "((0>1 1>0)>2 2>0)>-", "((0>1 1>0)>2 2>1)>-",
                "((0>2 2>0)>1 1>0)>-", "((0>2 2>0)>1 1>2)>-",
            ])

    def test_first_and_last(self):
        for size in range(1, 17):
            last = count_closed(size) - 1
            self.assertEqual(closed_number(nth_closed(size, 0)), 0)
            self.assertEqual(closed_number(nth_closed(size, last)), last)
            self.assertEqual(nth_closed(size, 0).nodes, round_nest(size).nodes)

    def test_many_places(self):
        rng = random.Random(1)
        for size in range(6, 17):
            found = []
            for _ in range(12):
                number = rng.randrange(count_closed(size))
                nest = nth_closed(size, number)
                self.assertEqual(len(nest.tops()), 1)
                self.assertEqual(closed_number(nest), number)
                found.append((number, key_of(nest)))
            self.assertEqual(sorted(found), sorted(found, key=lambda pair: pair[1]))
        for nest in [deep_nest(16), round_nest(16)]:
            self.assertEqual(nth_closed(16, closed_number(nest)).nodes, nest.nodes)

    def test_refuses(self):
        for nest in [Nest.loose(2), parse_nest("(0>1 1>0)>2 2>-")] + [
            nest for nest in some_nests(16, 30, 1) if len(nest.tops()) > 1
        ]:
            self.refuses(BadNest, {}, closed_number, nest)
        for size in (0, 17, -1):
            self.refuses(BadSize, {"size": size}, nth_closed, size, -1)
        for size in (1, 2, 3, 16):
            for number in (-1, count_closed(size)):
                self.refuses(BadNumber, {"number": number}, nth_closed, size, number)
