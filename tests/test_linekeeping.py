import itertools
import random

from tests.helpers import (
    Case, all_nests, chain_nest, deep_nest, orders_of_each, round_nest, shuffled, some_nests,
)
from tiedrings.errors import BadPlace
from tiedrings.linekeeping import keeps_lines, line_fault, line_up
from tiedrings.nestcards import cards_of
from tiedrings.nests import Nest
from tiedrings.nesttext import parse_nest

NEST = parse_nest("((0>1 1>0)>2 2>1)>-")


def plain_lines(book, order):
    """Lines by walking, as point 41 tells it."""
    lines = {place: [place] for place in range(len(book))}
    shut = set()
    for place in order:
        shut.add(place)
        goal = next((entry for entry in book[place] if entry not in shut), None)
        if goal is not None:
            lines[goal].extend(lines[place])
        lines[place] = []
    return [lines[place] for place in range(len(book))]


class LineUpTest(Case):
    def test_by_hand(self):
        self.assertEqual(line_up(NEST, []), [[0], [1], [2]])
        self.assertEqual(line_up(NEST, [0]), [[], [1, 0], [2]])
        self.assertEqual(line_up(NEST, [0, 1]), [[], [], [2, 1, 0]])
        self.assertEqual(line_up(NEST, [1, 0]), [[], [], [2, 0, 1]])
        self.assertEqual(line_up(NEST, [2, 0]), [[], [1, 2, 0], []])
        self.assertEqual(line_up(NEST, [2, 0, 1]), [[], [], []])
        self.assertEqual(line_up(Nest.loose(1), [0]), [[]])

    def test_against_walking(self):
        rng = random.Random(1)
        for nest in list(all_nests(3)) + some_nests(16, 20, 2) + [deep_nest(16), round_nest(16)]:
            book = cards_of(nest)
            for _ in range(5):
                order = shuffled(range(nest.size), rng)[:rng.randrange(nest.size + 1)]
                self.assertEqual(line_up(nest, order), plain_lines(book, order))

    def test_refuses(self):
        self.refuses(BadPlace, {"place": 3}, line_up, NEST, [1, 3, 1])
        self.refuses(BadPlace, {"place": 1}, line_up, NEST, [1, 1, 3])
        self.refuses(BadPlace, {"place": -1}, line_up, NEST, [0, -1])


class KeepsLinesTest(Case):
    def parts_lines(self, nest):
        """Walks with the two orders that are told."""
        goal, order, other = line_fault(nest)
        self.assertEqual(sorted(order), sorted(other))
        self.assertNotIn(goal, order)
        book = cards_of(nest)
        self.assertNotEqual(plain_lines(book, order)[goal], plain_lines(book, other)[goal])

    def test_small_nests_by_all_orders(self):
        for nest in [x for n in (1, 2, 3) for x in all_nests(n)] + list(all_nests(4))[::5]:
            book = cards_of(nest)
            kept = all(
                len({str(plain_lines(book, order)) for order in orders}) == 1
                for orders in orders_of_each(nest.size))
            self.assertIs(keeps_lines(nest), kept)
            if kept:
                self.assertIsNone(line_fault(nest))
            else:
                self.parts_lines(nest)

    def test_by_hand(self):
        for text, kept in (
            ("0>-", True), ("0>- 1>-", True), ("0>1 1>2 2>-", True), ("(0>1 1>2 2>0)>-", True),
            ("(0>1 1>2 2>0)>- (3>4 4>3)>-", True), ("0>2 1>2 2>-", False), ("(0>1 1>0)>2 2>-", False),
            ("(0>1 1>0)>- 2>1", False), ("((0>1 1>0)>2 2>1)>-", False),
        ):
            self.assertIs(keeps_lines(parse_nest(text)), kept, text)
            self.assertEqual(line_fault(parse_nest(text)) is None, kept)

    def test_sixteen_places(self):
        for nest in (round_nest(16), chain_nest(16), Nest.loose(16)):
            self.assertIs(keeps_lines(nest), True)
            self.assertIsNone(line_fault(nest))
        for nest in [deep_nest(16)] + some_nests(16, 60, 3):
            gates = [gate for _, gate in nest.nodes if gate != -1]
            rings = [gate for node, gate in nest.nodes if len(node) > 1 and gate != -1]
            if rings or len(set(gates)) < len(gates):
                self.assertIs(keeps_lines(nest), False)
                self.parts_lines(nest)
            else:
                self.assertIs(keeps_lines(nest), True)

    def test_kept_lines_in_many_orders(self):
        for nest in (round_nest(5), chain_nest(5), Nest.loose(5)):
            book = cards_of(nest)
            for number in range(6):
                for places in itertools.combinations(range(5), number):
                    lines = {str(plain_lines(book, o)) for o in itertools.permutations(places)}
                    self.assertEqual(len(lines), 1)
