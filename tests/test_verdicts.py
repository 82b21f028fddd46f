import random

from tests.helpers import Case, all_books, all_nests, all_rules, some_nests
from tiedrings.errors import BadBook, BadRule
from tiedrings.judging import judge
from tiedrings.nestcards import cards_of
from tiedrings.nests import Nest
from tiedrings.nesttext import parse_nest
from tiedrings.rulejudge import judge_rule
from tiedrings.rules import rule_of
from tiedrings.verdicts import Free, Torn, TornBook, Verdict

BOOK = [[1, 2, 3], [0, 3, 2], [3, 0, 1], [2, 0, 1]]
ORDERS = ([1, 0], [0, 1])
CROWDS = ([0, 0, 1], [0, 1, 0])
AGREEING = parse_nest("(0>1 1>0)>- (2>3 3>2)>-")
LATE = [[1, 2, 3, 4], [0, 2, 3, 4], [4], [], []]
WIDE = BOOK + [[]]
LONG_ORDERS = ([4, 1, 0], [0, 1, 4])
LONG_CROWDS = ([4, 0, 0, 1], [0, 1, 4, 0])
OTHER_BOOKS = ([[]], [[1], [0]], [[1, 2, 3], [0, 2, 3], [3, 0, 1], [2, 0, 1]])

BENT_PLACES = (-1, 4, -2, 10 ** 12, 1, 2)
BENT_ORDERS = (
    ([1, 0], [1, 0]), ([], []), ([1, 0], [0]), ([1], [0]), ([1, 0], [0, 2]), ([1, 2], [0, 1]),
    ([1, 1], [0, 1]), ([1, 0], [0, 0]), ([1, 1], [1, 1]), ([1, 0, 0], [0, 1, 0]),
    ([1, 0, 1], [0, 1, 1]), ([1, 4], [4, 1]), ([1, -1], [-1, 1]), ([4, 1, 0], [4, 0, 1]),
    ([-1, 1, 0], [-1, 0, 1]), ([1, 0], [0, 1, 2]), ([99, 1, 0], [99, 0, 1]),
    ([1, 0, 99], [0, 1, 99]), ([1, 0, -5], [0, 1, -5]), ([2, 3], [3, 2]),
)
BENT_CROWDS = (
    ([0, 0, 1], [0, 0, 1]), ([], []), ([0, 0, 1], [0, 1]), ([0, 0, 1], [0, 1, 1]), ([0], [1]),
    ([0, 0, 1], [0, 0, 2]), ([0, 0, 1, 4], [0, 1, 0, 4]), ([0, 0, 1, -1], [0, 1, 0, -1]),
    ([-1, 0, 0, 1], [-1, 0, 1, 0]), ([0, 0, 2], [0, 2, 0]), ([0, 0, 1], [0, 1, 0, 0]),
    ([0, 0, 99], [0, 99, 0]), ([0, 0, 1, 1], [0, 1, 0]),
)


class VerdictTest(Case):
    def test_words(self):
        self.assertEqual(Verdict(True).word(), "free")
        self.assertEqual(Verdict(False).word(), "torn")
        self.assertIs(Verdict(True).is_free, True)
        self.assertIs(Verdict(False).is_free, False)
        self.assertEqual(Free(AGREEING).word(), "free")
        self.assertIs(Free(AGREEING).is_free, True)
        for verdict in (Torn(0, ORDERS, CROWDS), TornBook(0, 0, ORDERS, CROWDS, AGREEING)):
            self.assertEqual(verdict.word(), "torn")
            self.assertIs(verdict.is_free, False)

    def test_families(self):
        self.assertEqual(Free.__bases__, (Verdict,))
        self.assertEqual(Torn.__bases__, (Verdict,))
        self.assertEqual(TornBook.__bases__, (Torn,))

    def test_fields(self):
        verdict = TornBook(3, 9, ORDERS, CROWDS, AGREEING)
        self.assertEqual((verdict.entry, verdict.place), (3, 9))
        self.assertEqual((verdict.orders, verdict.crowds), (ORDERS, CROWDS))
        self.assertEqual(verdict.nest.nodes, AGREEING.nodes)
        self.assertEqual(Free(AGREEING).nest.nodes, AGREEING.nodes)

    def test_lists_are_copied(self):
        orders, crowds = ([1, 0], [0, 1]), ([0, 0, 1], [0, 1, 0])
        verdicts = [Torn(0, orders, crowds), TornBook(0, 0, orders, crowds, AGREEING)]
        for row in orders + crowds:
            row.clear()
        for verdict in verdicts:
            self.assertEqual((verdict.orders, verdict.crowds), (ORDERS, CROWDS))
            self.assertIs(verdict.holds(BOOK), True)


class FreeTest(Case):
    def test_holds_for_the_cards_of_the_nest_only(self):
        nests = [nest for size in (1, 2, 3) for nest in all_nests(size)]
        books = [book for size in (1, 2, 3) for book in all_books(size)]
        for nest in nests:
            self.assertEqual(
                [book for book in books if Free(nest).holds(book)], [cards_of(nest)])

    def test_greater_nests(self):
        for nest in some_nests(16, 10, 1):
            book = cards_of(nest)
            self.assertIs(Free(nest).holds(book), True)
            book[7] = book[7][::-1] + ([] if len(book[7]) > 1 else [0])
            self.assertIs(Free(nest).holds(book), False)
            self.assertIs(Free(nest).holds(book[:1] and [[] for _ in range(15)]), False)

    def test_rules(self):
        rules = [rule for size in (1, 2) for rule in all_rules(size)]
        for nest in [nest for size in (1, 2, 3) for nest in all_nests(size)]:
            held = [rule for rule in rules if Free(nest).holds_for_rule(rule)]
            self.assertEqual(held, [rule_of(cards_of(nest))] if nest.size < 3 else [])
        rng = random.Random(2)
        for nest in some_nests(5, 20, 3):
            rule = rule_of(cards_of(nest))
            self.assertIs(Free(nest).holds_for_rule(rule), True)
            number = rng.randrange(1, 31)
            place = [x for x in range(5) if number // 2 ** x % 2][0]
            outside = [x for x in range(5) if not number // 2 ** x % 2]
            goals = [goal for goal in outside + [-1] if goal != rule[number][place]]
            rule[number][place] = rng.choice(goals)
            self.assertIs(Free(nest).holds_for_rule(rule), False)

    def test_more_than_five_places_hold_for_no_rule(self):
        for nest in some_nests(6, 3, 4) + some_nests(16, 3, 5):
            for rule in ([[0], [-1]], rule_of(cards_of(some_nests(5, 1, 6)[0]))):
                self.assertIs(Free(nest).holds_for_rule(rule), False)

    def test_nest_with_other_gates(self):
        nest = parse_nest("(0>1 1>0)>2 2>-")
        self.assertIs(Free(nest).holds([[1, 2], [0, 2], []]), True)
        for other in ("(0>1 1>0)>- 2>-", "0>1 1>2 2>-", "((0>1 1>0)>2 2>0)>-", "0>- 1>-"):
            self.assertIs(Free(parse_nest(other)).holds([[1, 2], [0, 2], []]), False)
            rule = rule_of([[1, 2], [0, 2], []])
            self.assertIs(Free(parse_nest(other)).holds_for_rule(rule), False)


class TornTest(Case):
    def test_example(self):
        verdict = Torn(0, ORDERS, CROWDS)
        self.assertIs(verdict.holds(BOOK), True)
        self.assertIs(verdict.holds_for_rule(rule_of(BOOK)), True)
        # Signs that are not the least ones are signs, too, in a Torn.
        self.assertIs(Torn(0, LONG_ORDERS, LONG_CROWDS).holds(WIDE), True)
        self.assertIs(Torn(0, LONG_ORDERS, LONG_CROWDS).holds_for_rule(rule_of(WIDE)), True)

    def test_does_not_hold_elsewhere(self):
        for book in OTHER_BOOKS:
            self.assertIs(Torn(0, ORDERS, CROWDS).holds(book), False)
            self.assertIs(Torn(0, ORDERS, CROWDS).holds_for_rule(rule_of(book)), False)
            self.assertIs(TornBook(0, 0, ORDERS, CROWDS, AGREEING).holds(book), False)

    def bent(self):
        """All verdicts that carry one bent field."""
        for place in BENT_PLACES:
            if place not in (0, 1):
                yield place, ORDERS, CROWDS
        for orders in BENT_ORDERS:
            yield 0, orders, CROWDS
        for crowds in BENT_CROWDS:
            yield 0, ORDERS, crowds

    def test_bent_fields(self):
        rule = rule_of(BOOK)
        for place, orders, crowds in self.bent():
            with self.subTest((place, orders, crowds)):
                self.assertIs(Torn(place, orders, crowds).holds(BOOK), False)
                self.assertIs(Torn(place, orders, crowds).holds_for_rule(rule), False)
                book = TornBook(0, place, orders, crowds, AGREEING)
                self.assertIs(book.holds(BOOK), False)
                self.assertIs(book.holds_for_rule(rule), False)
                for entry in (len(orders[0]) - 2, len(crowds[0]) - 3):
                    book = TornBook(entry, place, orders, crowds, AGREEING)
                    self.assertIs(book.holds(BOOK), False)

    def test_orders_must_part_the_named_folk(self):
        # The orders part the folk of 0 and of 1, and nobody else.
        for place, holds in ((0, True), (1, True), (2, False), (3, False)):
            self.assertIs(Torn(place, ORDERS, CROWDS).holds(BOOK), holds)

    def test_filled_places_count_and_not_who_sits_there(self):
        # Both crowds fill 0 and 1, with other people at them.
        book = [[1, 2], [], []]
        self.assertIs(Torn(0, ([0, 1], [1, 0]), ([0, 1], [1, 0])).holds(book), False)
        self.assertIs(Torn(0, ([0, 1], [1, 0]), ([0, 1, 0], [0, 0, 1])).holds(book), True)
        self.assertIs(Torn(0, ([0, 1], [1, 0]), ([0, 1, 0], [0, 0, 1])).holds([[1], [0], []]), False)

    def test_long_crowds(self):
        crowds = (CROWDS[0] + [2] * 3, CROWDS[1] + [2] * 3)
        self.assertIs(Torn(0, ORDERS, crowds).holds(BOOK), False)
        book = [[1, 2, 3], [0, 3, 2], [], []]
        self.assertIs(Torn(0, ORDERS, CROWDS).holds(book), True)
        self.assertIs(Torn(0, ORDERS, (CROWDS[0] + [0] * 40, CROWDS[1] + [0] * 40)).holds(book), False)

    def test_rules_that_come_from_no_cards(self):
        for rule in list(all_rules(3))[::7]:
            verdict = judge_rule(rule)
            if not verdict.is_free:
                self.assertIs(verdict.holds_for_rule(rule), True)
                free = rule_of([[], [], []])
                self.assertIs(verdict.holds_for_rule(free), False)


class TornBookTest(Case):
    def test_example(self):
        verdict = TornBook(0, 0, ORDERS, CROWDS, AGREEING)
        self.assertIs(verdict.holds(BOOK), True)
        self.assertIs(verdict.holds_for_rule(rule_of(BOOK)), True)
        # The other one whose folk these orders part serves as well: walking alone decides.
        self.assertIs(TornBook(0, 1, ORDERS, CROWDS, AGREEING).holds(BOOK), True)

    def test_other_entry(self):
        for entry in (1, 2, 3, -1, -2, -3, 10 ** 9):
            verdict = TornBook(entry, 0, ORDERS, CROWDS, AGREEING)
            self.assertIs(verdict.holds(BOOK), False)
            self.assertIs(verdict.holds_for_rule(rule_of(BOOK)), True)

    def test_lengths_count(self):
        nest = judge(WIDE).nest
        self.assertIs(TornBook(0, 0, ORDERS, CROWDS, nest).holds(WIDE), True)
        for entry in (0, 1):
            for orders, crowds in (
                    (LONG_ORDERS, CROWDS), (ORDERS, LONG_CROWDS), (LONG_ORDERS, LONG_CROWDS)):
                self.assertIs(Torn(0, orders, crowds).holds(WIDE), True)
                verdict = TornBook(entry, 0, orders, crowds, nest)
                self.assertIs(verdict.holds(WIDE), False)
                self.assertIs(verdict.holds_for_rule(rule_of(WIDE)), True)

    def test_late_fault(self):
        late = judge(LATE)
        self.assertEqual((late.entry, late.place), (1, 0))
        self.assertIs(late.holds(LATE), True)
        for nest in (Nest.loose(5), parse_nest("(0>1 1>0)>- 2>4 3>- 4>-"), AGREEING):
            verdict = TornBook(1, 0, late.orders, late.crowds, nest)
            self.assertIs(verdict.holds(LATE), False)

    def test_other_nest(self):
        for text in (
            "0>-", "0>1 1>2 2>-", "0>- 1>- 2>- 3>-", "(0>1 1>0)>- 2>3 3>-",
            "(0>1 1>2 2>0)>- 3>-", "(0>1 1>0)>- (2>3 3>2)>- 4>-",
        ):
            verdict = TornBook(0, 0, ORDERS, CROWDS, parse_nest(text))
            self.assertIs(verdict.holds(BOOK), False)
            self.assertIs(verdict.holds_for_rule(rule_of(BOOK)), True)

    def test_nest_may_differ_behind_the_entry(self):
        nest = parse_nest("((0>1 1>0)>2 (2>3 3>2)>1)>-")
        self.assertIs(TornBook(0, 0, ORDERS, CROWDS, nest).holds(BOOK), True)


class CheckTest(Case):
    def test_wrong_books_and_rules(self):
        bent = TornBook(9, -5, ([9], []), ([-4], [3]), Nest.loose(1))
        for verdict in (Free(AGREEING), Torn(0, ORDERS, CROWDS), bent):
            self.refuses(BadBook, {"place": -1}, verdict.holds, [])
            self.refuses(BadBook, {"place": 1}, verdict.holds, [[], [1]])
            self.refuses(BadRule, {"row": -1}, verdict.holds_for_rule, [[0]])
            self.refuses(BadRule, {"row": 1}, verdict.holds_for_rule, [[0], [0]])

    def test_none_of_bent_ones_raises(self):
        bent = TornBook(9, -5, ([9], []), ([-4], [3]), Nest.loose(1))
        self.assertIs(bent.holds(BOOK), False)
        self.assertIs(bent.holds_for_rule(rule_of(BOOK)), False)
