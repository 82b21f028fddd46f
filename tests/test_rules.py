import itertools
import random

from tests.helpers import (
    Case, all_books, all_rules, plain_ruled_seats, plain_ruled_stands, some_books, some_rule,
)
from tiedrings.cards import first_open
from tiedrings.errors import BadBook, BadPlace, BadRule, BadSize
from tiedrings.rules import check_rule, read_cards, rule_of, seat_by_rule, settle_rule

# A torn rule: with 0 and 2 shut, the folk of 0 have an open place and the folk of 2 have none.
RULE = [[0, 1, 2], [1, 1, 2], [0, -1, 2], [2, 2, 2], [0, 1, 0], [1, 1, -1], [0, 0, 0], [-1, -1, -1]]


class CheckTest(Case):
    def test_good_rules(self):
        for size in (1, 2, 3):
            for rule in all_rules(size):
                self.assertIsNone(check_rule(rule))
        rng = random.Random(3)
        self.assertIsNone(check_rule(some_rule(5, rng)))

    def test_numbers_of_rows(self):
        for number in (0, 1, 3, 5, 7, 31, 33, 64):
            self.refuses(BadRule, {"row": -1}, check_rule, [[9]] * number)

    def test_wrong_rows(self):
        for number, row in (
            (0, [1, 1, 2]), (0, [0, 1]), (0, [0, 1, 2, 3]), (0, [0, 1, -1]), (0, []),
            (1, [0, 1, 2]), (1, [3, 1, 2]), (1, [-2, 1, 2]), (1, [1, 2, 2]), (1, [1, 1, -1]),
            (3, [0, 2, 2]), (3, [1, 2, 2]), (3, [2, 1, 2]), (3, [2, 2, 0]), (3, [10 ** 9, 2, 2]),
            (5, [2, 1, 1]), (7, [-1, -1, 0]), (7, [-1, -1]), (7, [-1, -1, -1, -1]), (6, [0, 0, 2]),
        ):
            with self.subTest(row):
                rule = [list(old) for old in RULE]
                rule[number] = row
                self.refuses(BadRule, {"row": number}, check_rule, rule)

    def test_least_wrong_row(self):
        rule = [list(old) for old in RULE]
        rule[5] = [0]
        rule[2] = [0, 1, 2]
        self.refuses(BadRule, {"row": 2}, check_rule, rule)

    def test_rows_for_fewer_places(self):
        self.refuses(BadRule, {"row": 0}, check_rule, [[0], [-1], [0], [-1]])
        self.refuses(BadRule, {"row": 0}, check_rule, [[0, 1], [1, 1]])

    def test_others_check_in_the_same_way(self):
        for function, more in ((settle_rule, [[9]]), (seat_by_rule, [[9]]), (read_cards, [])):
            self.refuses(BadRule, {"row": -1}, function, [[0]], *more)
            self.refuses(BadRule, {"row": 1}, function, [[0], [0]], *more)


class RuleTest(Case):
    def test_rule_of(self):
        self.assertEqual(rule_of([[]]), [[0], [-1]])
        self.assertEqual(rule_of([[1], []]), [[0, 1], [1, 1], [0, -1], [-1, -1]])
        for book in list(all_books(3)) + some_books(5, 20, 8):
            size = len(book)
            rule = rule_of(book)
            self.assertEqual(len(rule), 2 ** size)
            for number, row in enumerate(rule):
                shut = [x for x in range(size) if number // 2 ** x % 2]
                wanted = [first_open(book, x, shut) if x in shut else x for x in range(size)]
                self.assertEqual(row, wanted)
            self.assertIsNone(check_rule(rule))
            self.assertEqual(read_cards(rule), book)

    def test_rule_of_refuses(self):
        self.refuses(BadBook, {"place": -1}, rule_of, [])
        self.refuses(BadBook, {"place": 5}, rule_of, [[], [], [], [], [], [5]])
        self.refuses(BadSize, {"size": 6}, rule_of, [[] for _ in range(6)])
        self.refuses(BadSize, {"size": 16}, rule_of, [[] for _ in range(16)])

    def test_settle(self):
        self.assertEqual(settle_rule(RULE, []), [0, 1, 2])
        self.assertEqual(settle_rule(RULE, [0, 1]), [2, 2, 2])
        self.assertEqual(settle_rule(RULE, [1, 0]), [2, -1, 2])
        self.assertEqual(settle_rule([[0], [-1]], [0]), [-1])
        rng = random.Random(4)
        for rule in [some_rule(4, rng) for _ in range(20)] + [some_rule(5, rng) for _ in range(5)]:
            size = len(rule[0])
            for order in itertools.permutations(range(size), size - 1):
                self.assertEqual(
                    settle_rule(rule, list(order)), plain_ruled_stands(rule, order))

    def test_settle_refuses(self):
        self.refuses(BadPlace, {"place": 3}, settle_rule, RULE, [0, 3, 0])
        self.refuses(BadPlace, {"place": 0}, settle_rule, RULE, [0, 0, 3])
        self.refuses(BadPlace, {"place": -1}, settle_rule, RULE, [-1])

    def test_seats(self):
        self.assertEqual(seat_by_rule(RULE, [0, 0, 1, 0]), [0, 1, 2, -1])
        self.assertEqual(seat_by_rule(RULE, [1, 1, 1]), [1, -1, -1])
        self.assertEqual(seat_by_rule(RULE, []), [])
        rng = random.Random(5)
        for rule in [some_rule(4, rng) for _ in range(40)] + [some_rule(5, rng) for _ in range(5)]:
            wishes = [rng.randrange(len(rule[0])) for _ in range(7)]
            self.assertEqual(seat_by_rule(rule, wishes), plain_ruled_seats(rule, wishes))

    def test_seats_refuse(self):
        self.refuses(BadPlace, {"place": 3}, seat_by_rule, RULE, [0, 0, 3, -1])
        self.refuses(BadPlace, {"place": -1}, seat_by_rule, RULE, [-1, 3])

    def test_read_cards(self):
        self.assertEqual(read_cards(RULE), [[1, 2], [], [0]])
        self.assertEqual(read_cards([[0], [-1]]), [[]])
