import random

from tests.helpers import Case, chain_nest, deep_nest, round_nest, some_nests
from tests.helpers import all_nests as nests_by_gates
from tests.test_closedranks import closed_key
from tiedrings.errors import BadNumber, BadSize
from tiedrings.gatewords import gate_word
from tiedrings.nestcounts import count_nests
from tiedrings.nestranks import all_nests, nest_number, nth_nest
from tiedrings.nests import Nest
from tiedrings.nesttext import format_nest


def nest_key(nest):
    """The terms of point 28 one after another: numbers are in the order of these keys."""
    letters = [0] + [nest.size if letter == -1 else letter for letter in gate_word(nest)]
    return [
        (len(top), top, closed_key(nest, top), letter)
        for top, letter in zip(nest.tops(), letters)
    ]


class NestRanksTest(Case):
    def test_all_small_nests(self):
        for size in range(1, 5):
            listed = sorted(nests_by_gates(size), key=nest_key)
            self.assertEqual([nest_number(nest) for nest in listed], list(range(len(listed))))
            self.assertEqual([nest.nodes for nest in all_nests(size)], [x.nodes for x in listed])
            for number, nest in enumerate(listed):
                self.assertEqual(nth_nest(size, number).nodes, nest.nodes)

    def test_two_places(self):
        self.assertEqual(
            [format_nest(nest) for nest in all_nests(2)],
            ["0>- 1>0", "0>1 1>-", "0>- 1>-", "(0>1 1>0)>-"])
        self.assertEqual([nest_number(nest) for nest in all_nests(1)], [0])

    def test_many_places(self):
        rng = random.Random(1)
        for size in range(5, 17):
            numbers = sorted({rng.randrange(count_nests(size)) for _ in range(12)})
            nests = [nth_nest(size, number) for number in numbers]
            self.assertEqual([nest_number(nest) for nest in nests], numbers)
            keys = [nest_key(nest) for nest in nests]
            self.assertEqual(sorted(keys), keys)

    def test_from_nests(self):
        for nest in some_nests(16, 40, 1) + [
            deep_nest(16), round_nest(16), chain_nest(16), Nest.loose(16), Nest.loose(1),
        ]:
            number = nest_number(nest)
            self.assertTrue(0 <= number < count_nests(nest.size))
            self.assertEqual(nth_nest(nest.size, number).nodes, nest.nodes)

    def test_first_and_last(self):
        for size in range(1, 17):
            last = count_nests(size) - 1
            self.assertEqual(nest_number(nth_nest(size, 0)), 0)
            self.assertEqual(nest_number(nth_nest(size, last)), last)
            self.assertEqual(len(nth_nest(size, last).tops()), 1)
            self.assertEqual(nth_nest(size, 0).tops(), Nest.loose(size).tops())

    def test_refuses(self):
        for size in (0, 17, -1):
            self.refuses(BadSize, {"size": size}, nth_nest, size, -1)
        for size in (1, 2, 16):
            for number in (-1, count_nests(size)):
                self.refuses(BadNumber, {"number": number}, nth_nest, size, number)
        for size in (0, 5, 16, 17, -1):
            self.refuses(BadSize, {"size": size}, all_nests, size)

    def test_refuses_when_first_iterated(self):
        nests = all_nests(5)
        with self.assertRaises(BadSize):
            next(nests)
