import random

from tests.helpers import (
    Case, all_rules, parted_places, plain_ruled_seats, plain_ruled_stands, some_nests, some_rule,
)
from tiedrings.errors import BadRule
from tiedrings.nestcards import cards_of
from tiedrings.rulejudge import judge_rule
from tiedrings.rules import read_cards, rule_of
from tiedrings.verdicts import Free, Torn

TORN = [[0, 1, 2], [1, 1, 2], [0, -1, 2], [2, 2, 2], [0, 1, 0], [1, 1, -1], [0, 0, 0], [-1, -1, -1]]


def least_failure(rule):
    """The least triple of point 21, or None."""
    size = len(rule[0])
    sets = [{x for x in range(size) if number // 2 ** x % 2} for number in range(len(rule))]
    for number, shut in enumerate(sets):
        for x in range(size):
            for y in range(size):
                if x in shut and y not in shut:
                    row = rule[sets.index(shut | {y})]
                    z = rule[number][x]
                    if row[x] != (row[y] if z == y else z):
                        return number, x, y
    return None


class RuleJudgeTest(Case):
    def check(self, rule):
        size = len(rule[0])
        verdict = judge_rule(rule)
        parted = parted_places(size, lambda order: plain_ruled_stands(rule, order))
        self.assertEqual(verdict.is_free, not parted, rule)
        self.assertTrue(verdict.holds_for_rule(rule))
        failure = least_failure(rule)
        if failure is None:
            self.assertIs(type(verdict), Free)
            self.assertEqual(cards_of(verdict.nest), read_cards(rule))
            self.assertEqual(rule_of(read_cards(rule)), rule)
            return True
        self.assertIs(type(verdict), Torn)
        number, x, y = failure
        shut = [place for place in range(size) if number // 2 ** place % 2]
        others = [place for place in shut if place != x]
        self.assertEqual(verdict.place, x)
        self.assertEqual(verdict.orders, (others + [x, y], others + [y, x]))
        self.assertEqual(verdict.crowds, (shut + [x, y], shut + [y, x]))
        ends = [plain_ruled_stands(rule, order)[x] for order in verdict.orders]
        self.assertNotEqual(ends[0], ends[1])
        filled = [set(plain_ruled_seats(rule, crowd)) - {-1} for crowd in verdict.crowds]
        self.assertNotEqual(filled[0], filled[1])
        return False

    def test_all_rules_with_up_to_three_places(self):
        free = [sum(self.check(rule) for rule in all_rules(size)) for size in (1, 2, 3)]
        self.assertEqual(free, [1, 4, 36])

    def test_greater_rules(self):
        rng = random.Random(1)
        for size, number in ((4, 60), (5, 10)):
            for _ in range(number):
                self.check(some_rule(size, rng))

    def test_rules_of_nests_and_nearly(self):
        rng = random.Random(2)
        for nest in some_nests(4, 30, 3) + some_nests(5, 10, 4):
            rule = rule_of(cards_of(nest))
            self.assertTrue(self.check(rule))
            verdict = judge_rule(rule)
            self.assertEqual(verdict.nest.nodes, nest.nodes)
            number = rng.randrange(1, len(rule) - 1)
            for place in range(nest.size):
                if number // 2 ** place % 2 and rule[number][place] != -1:
                    rule[number][place] = -1
                    self.check(rule)
                    break

    def test_example(self):
        verdict = judge_rule(TORN)
        self.assertEqual(verdict.place, 1)
        self.assertEqual(verdict.orders, ([1, 0], [0, 1]))
        self.assertEqual(verdict.crowds, ([1, 1, 0], [1, 0, 1]))
        self.assertEqual(judge_rule([[0], [-1]]).nest.nodes, [((0,), -1)])

    def test_refuses(self):
        self.refuses(BadRule, {"row": -1}, judge_rule, [])
        self.refuses(BadRule, {"row": -1}, judge_rule, [[0]])
        self.refuses(BadRule, {"row": 1}, judge_rule, [[0], [0]])
        self.refuses(BadRule, {"row": 7}, judge_rule, TORN[:7] + [[-1, -1, 2]])
