"""Point 3 for every function: arguments stay as they are, and returned lists are new."""

import copy

from tests.helpers import Case, spoil
from tiedrings.arrows import arrows, free_at, possible_ends
from tiedrings.calm import calm_places, is_calm, unrest
from tiedrings.cards import (
    check_book, check_places, first_open, places_ahead, rename_book, shorten_cards, without_places,
)
from tiedrings.cardtext import format_book, parse_book
from tiedrings.chances import chances, sure_end
from tiedrings.choosing import choose, nth_subset, subset_number
from tiedrings.closedranks import closed_number, nth_closed
from tiedrings.crowding import largest_crowd, least_crowd
from tiedrings.cutting import cut
from tiedrings.desk import run_text
from tiedrings.distance import common_part, fewest_steps, step_count
from tiedrings.ever import ever_at, way_there
from tiedrings.extracting import take_out
from tiedrings.faults import first_fault, list_faults, rest_fault
from tiedrings.feeding import feed_way, feeders, least_shutting, stand_by_feeders
from tiedrings.fewest import fewest_shuttings
from tiedrings.finishing import agreeing_nest
from tiedrings.flows import flow, gone_home
from tiedrings.gathering import gather, hopeful, together
from tiedrings.gatewords import gate_word, hang_tops
from tiedrings.growth import next_seat, seats_left, until_full
from tiedrings.halfknown import HalfKnown
from tiedrings.inserting import put_in
from tiedrings.judging import judge
from tiedrings.leading import do_steps, lead, loosen
from tiedrings.learning import Learner
from tiedrings.linekeeping import keeps_lines, line_fault, line_up
from tiedrings.meeting import meet
from tiedrings.nestcards import card_of, cards_of, walk_from
from tiedrings.needless import needless_entries, strike
from tiedrings.nestranks import all_nests, nest_number, nth_nest
from tiedrings.nests import Nest
from tiedrings.nesttext import format_nest, parse_nest
from tiedrings.nextopen import next_open
from tiedrings.normalbook import normal_book
from tiedrings.openreach import come_past
from tiedrings.pairtable import pair_table
from tiedrings.parting import are_alike, parting_order
from tiedrings.peeling import build, peel
from tiedrings.piles import pile, pile_sizes
from tiedrings.rehearsing import rehearse
from tiedrings.renaming import join_names, rename_nest, turn_names
from tiedrings.reopening import taken_back
from tiedrings.reports import report
from tiedrings.rooming import check_rooms, check_wishes, count_wishes, spread_wishes
from tiedrings.rulejudge import judge_rule
from tiedrings.rules import check_rule, read_cards, rule_of, seat_by_rule, settle_rule
from tiedrings.shapes import own_namings, same_shape, shape_code
from tiedrings.shutting import settle, settle_steps, standing_at
from tiedrings.sides import side_by_side
from tiedrings.sitting import count_seated, seat_people
from tiedrings.standing import groups_of, stands_of
from tiedrings.street import Street
from tiedrings.swallowing import swallow
from tiedrings.tiers import Tier
from tiedrings.treeview import least_node, members_of, nodes_around, ring_above, way_home
from tiedrings.tying import tie
from tiedrings.verdicts import Free, Torn, TornBook
from tiedrings.witnesses import least_signs, parting_crowds, parting_orders
from tiedrings.words import read_line, write_line

FREE = [[1, 2], [0, 2], [1, 0], []]
TORN = [[1, 2, 3], [0, 3, 2], [3, 0, 1], [2, 0, 1]]
RULE = rule_of(FREE)
TORN_RULE = rule_of(TORN)
NEST = parse_nest("((0>1 1>0)>2 2>1)>- 3>-")
CLOSED = parse_nest("((0>1 1>0)>2 2>1)>-")
OTHER = parse_nest("((0>1 1>0)>2 2>0)>3 3>-")
PAIRS = [((0,), 1), ((1,), 0), ((0, 1), -1)]

CALLS = [
    (check_book, TORN), (check_places, 4, [3, 1, 2]), (first_open, TORN, 0, [2, 1]),
    (places_ahead, TORN, 0, 3), (places_ahead, TORN, 0, 0), (shorten_cards, TORN, 2),
    (shorten_cards, TORN, 4), (without_places, TORN, [2, 0]), (without_places, TORN, []),
    (rename_book, TORN, [3, 1, 2, 0]), (rename_book, TORN, [0, 1, 2, 3]),
    (format_book, TORN), (parse_book, "0: 1\n1:"), (settle, TORN, [1, 0]), (settle, TORN, []),
    (standing_at, [1, 1, 2], 1), (seat_people, TORN, [0, 0, 1]), (count_seated, TORN, [0, 0, 1]),
    (check_rule, RULE), (rule_of, TORN), (settle_rule, RULE, [2, 0]), (settle_rule, RULE, []),
    (seat_by_rule, RULE, [0, 0, 1]), (read_cards, RULE), (check_rooms, 2, [1, 2]),
    (check_wishes, 2, [1, 2]), (spread_wishes, [2, 0, 1]), (count_wishes, 3, [2, 0, 2]),
    (first_fault, TORN), (list_faults, TORN), (rest_fault, TORN), (rest_fault, FREE),
    (members_of, NEST, (0, 1, 2)), (members_of, NEST, (0,)), (ring_above, NEST, (0,)),
    (least_node, NEST, [2, 0]), (nodes_around, NEST, 0), (way_home, NEST, 0), (card_of, NEST, 0),
    (cards_of, NEST), (next_open, NEST, 0, [1, 0]), (format_nest, NEST),
    (parting_orders, TORN), (parting_crowds, TORN), (least_signs, TORN), (is_calm, TORN, 0),
    (calm_places, FREE), (unrest, TORN, 0),
    (choose, 5, 2), (subset_number, 5, [1, 3]), (nth_subset, 5, 2, 7), (gate_word, NEST),
    (nest_number, NEST), (join_names, [1, 0], [1, 0]), (turn_names, [1, 2, 0]),
    (shape_code, NEST), (same_shape, NEST, NEST), (own_namings, NEST), (closed_number, CLOSED),
    (flow, NEST, [1, 1, 0, 1], [3, 0, 1, 2]), (flow, NEST, [9, 9, 9, 9], [0, 1, 1, 2]),
    (gone_home, NEST, [1, 1, 1, 1], [3, 0, 0, 2]), (swallow, NEST, [1, 1, 1, 1], [3, 0, 0, 2], 1),
    (chances, NEST, [1, 1, 1, 1], [2, 0, 2, 0], 0), (chances, NEST, [0, 0, 0, 0], [2, 0, 2, 0], 0),
    (sure_end, NEST, [1, 1, 1, 1], [0, 0, 2, 0], 0), (next_seat, NEST, [1, 1, 1, 1], [2, 0, 0, 1], 0),
    (seats_left, NEST, [1, 1, 2, 1], [2, 0, 0, 1], 0),
    (until_full, NEST, [1, 1, 2, 1], [2, 0, 0, 1], 0, 2),
    (stands_of, NEST, [1, 0]), (stands_of, NEST, []), (groups_of, NEST, [3, 1, 0]),
    (feeders, NEST, 1), (feed_way, NEST, 2, 0), (feed_way, NEST, 2, 2),
    (stand_by_feeders, NEST, [1, 0], 2), (least_shutting, NEST, 0, 2), (least_shutting, NEST, 0, 0),
    (pile_sizes, NEST, 1), (pile, NEST, 1, 2), (pile, NEST, 3, 0), (meet, NEST, 0, 2, 1),
    (meet, NEST, 0), (taken_back, NEST, [2, 0, 1], 0), (line_up, NEST, [1, 0]), (line_up, NEST, []),
    (keeps_lines, NEST), (line_fault, NEST), (peel, NEST), (fewest_steps, NEST, OTHER),
    (fewest_steps, NEST, NEST), (step_count, NEST, OTHER), (arrows, TORN, [3, 1]), (arrows, TORN, []),
    (arrows, TORN, [0, 1, 2, 3]), (possible_ends, TORN, [3, 2], 0), (free_at, TORN, [3, 2]),
    (together, TORN, [3, 2], 0, 1), (ever_at, TORN, [3, 2], 3), (way_there, TORN, [3, 2], 3, 0),
    (way_there, TORN, [3, 2], 3, 3), (fewest_shuttings, TORN, 0, 3), (fewest_shuttings, TORN, 0, 0),
    (come_past, TORN, [3, 0], [2]), (come_past, TORN, [3, 0], [2, 1]), (pair_table, TORN, [3, 0]),
    (pair_table, TORN, [3, 0, 1, 2]), (normal_book, TORN, [3, 0]), (normal_book, TORN, [3, 0, 1, 2]),
    (are_alike, TORN, FREE, [3, 0]), (parting_order, TORN, FREE, [3, 0]),
    (needless_entries, TORN, [3]), (strike, TORN, [(3, 0), (0, 2)]), (strike, TORN, []),
    (run_text, "places ada\njudge"), (read_line, "card ada : bo"), (read_line, "undo"),
    (write_line, ("card", "ada", ["bo", "cy"])),
]


def steps_list(book, order):
    return list(settle_steps(book, order))


def nodes_made(size, pairs):
    return Nest(size, pairs).nodes


def tied_nodes(book):
    return tie(book).nodes


def agreeing_nodes(book, entries):
    return agreeing_nest(book, entries).nodes


def nodes_of_nests(names, word):
    hung = hang_tops(NEST, word)
    return [nest.nodes for nest in (rename_nest(NEST, names), hung, nth_nest(4, 77), nth_closed(3, 5))]


def joined_and_cut(gone, entrances):
    left, kept = cut(NEST, gone)
    return left.nodes, kept, put_in(NEST, 1, CLOSED, entrances).nodes


def taken_out(places):
    outer, inner, entrances = take_out(NEST, places)
    return outer.nodes, inner.nodes, entrances


def nodes_after_steps(steps):
    led = lead(NEST, (3,), 0)
    made = (led, loosen(led, (3,)), do_steps(NEST, steps), build(4, steps), common_part(NEST, OTHER))
    return [nest.nodes for nest in made + (side_by_side(NEST, OTHER),)]


def gathered(book, kept, goals):
    return hopeful(book, kept, goals=goals), gather(book, kept, goals=goals)


def crowded(book, kept, folk, goals):
    most = largest_crowd(book, kept, folk=folk, goals=goals)
    return most, least_crowd(book, kept, folk=folk, goals=goals)


def half_told(choices, shut, stands):
    half = HalfKnown(NEST, choices)
    told = [half.choices, half.worlds, half.fits(shut, stands), half.ends(2, shut), half.sure(2, shut)]
    parted = [nest.nodes for nest in half.part(2, shut)]
    return told, parted, half.share(2, shut, 0), half.see(shut, stands), half.choices, half.world(0).nodes


def learned(stands):
    learner = Learner(2)
    learner.tell(stands)
    return learner.ask(), learner.asked, learner.done


def lived(book, deeds, names):
    street = Street(book)
    rehearsed = rehearse(street, deeds)
    for deed in deeds:
        street.do(deed)
    told = [street.deeds, street.shut_places, street.stands_now, street.who(1), street.limit]
    return rehearsed, told, report(street, names)


def nodes_listed(size):
    return [nest.nodes for nest in all_nests(size)]


def seats_with_rooms(book, wishes, rooms):
    return seat_people(book, wishes, rooms=rooms), count_seated(book, wishes, rooms=rooms)


def judged(book):
    verdict = judge(book)
    signs = [] if verdict.is_free else [verdict.place, verdict.orders, verdict.crowds]
    return verdict.word(), verdict.nest.nodes, signs


def judged_rule(rule):
    verdict = judge_rule(rule)
    return verdict.word(), [] if verdict.is_free else [verdict.orders, verdict.crowds]


def told_twice(book):
    return Free(NEST).holds(book), judge(TORN).holds(book)


def told_of_rule(rule):
    return Free(NEST).holds_for_rule(rule), judge(TORN).holds_for_rule(rule)


CALLS += [
    (steps_list, TORN, [1, 0, 3]), (nodes_made, 2, PAIRS), (tied_nodes, FREE),
    (agreeing_nodes, TORN, 1), (seats_with_rooms, TORN, [0, 0, 1], [2, 0, 1, 1]), (judged, TORN),
    (judged, FREE), (judged_rule, RULE), (judged_rule, TORN_RULE), (told_twice, FREE),
    (told_twice, TORN), (told_of_rule, RULE), (told_of_rule, TORN_RULE),
    (nodes_of_nests, [3, 0, 1, 2], [1]), (nodes_listed, 2), (joined_and_cut, [2], [2, 0]),
    (joined_and_cut, [], [0, 0]), (taken_out, (0, 1)), (nodes_after_steps, [("lead", (3,), 2)]),
    (nodes_after_steps, []), (gathered, TORN, [3, 2], [-1, 3]), (gathered, TORN, [3, 2], []),
    (half_told, [[1], [0], [0, 1], [-1], [2], [-1]], [2], [0, 1, 1, 3]), (learned, [1, 1]),
    (lived, FREE, [("shut", 0), ("late", 0, 2)], ["a", "b", "c", "d"]),
    (lived, FREE, [], ["a", "b", "c", "d"]), (lived, TORN, [("shut", 0)], ["a", "b", "c", "d"]),
    (crowded, TORN, [3, 2], [5, 0, 7, 1000], [3]), (crowded, TORN, [], [5, 0, 7, 1000], [-1]),
]


def plain_copy(args):
    """Copies of the lists; nests are passed on as they are."""
    return [copy.deepcopy(a) if isinstance(a, (list, tuple)) else a for a in args]


class ValuesTest(Case):
    def test_arguments_stay(self):
        for function, *args in CALLS:
            with self.subTest(function.__name__):
                given = plain_copy(args)
                before = plain_copy(args)
                function(*given)
                self.assertEqual(given, before)

    def test_changed_answers_change_no_later_answer(self):
        for function, *args in CALLS:
            with self.subTest(function.__name__):
                given = plain_copy(args)
                wanted = copy.deepcopy(function(*given))
                spoil(function(*given))
                self.assertEqual(given, plain_copy(args))
                self.assertEqual(function(*given), wanted)

    def test_changed_arguments_change_no_answer(self):
        for function, *args in CALLS:
            with self.subTest(function.__name__):
                given = plain_copy(args)
                answer = function(*given)
                wanted = copy.deepcopy(answer)
                spoil([a for a in given if isinstance(a, list)])
                self.assertEqual(answer, wanted)

    def test_kinds(self):
        for function, *args in CALLS:
            self.kinds_hold(function(*plain_copy(args)))

    def kinds_hold(self, value):
        self.assertIn(type(value), (list, tuple, int, str, bool, type(None)))
        if isinstance(value, (list, tuple)):
            for item in value:
                self.kinds_hold(item)


class ObjectsTest(Case):
    def test_nest_copies_its_pairs(self):
        pairs = list(PAIRS)
        nest = Nest(2, pairs)
        pairs.clear()
        self.assertEqual(nest.nodes, sorted(PAIRS, key=lambda pair: len(pair[0])))
        self.assertEqual(nest.gate_of((0, 1)), -1)

    def test_lists_of_a_nest_are_new(self):
        for read in (
            lambda: NEST.nodes, NEST.tops, NEST.rings, lambda: list(NEST),
            lambda: [list(pair) for pair in walk_from(NEST, 0)],
        ):
            wanted = copy.deepcopy(read())
            spoil(read())
            self.assertEqual(read(), wanted)

    def test_nests_are_not_changed_by_reading(self):
        nodes = NEST.nodes
        for function, *args in CALLS:
            function(*plain_copy(args))
        self.assertEqual(NEST.nodes, nodes)

    def test_finished_nest_is_its_own(self):
        tier = Tier(1)
        tier.put((0,), -1)
        spoil(tier.finished().nodes)
        self.assertEqual(tier.finished().nodes, [((0,), -1)])

    def test_verdicts_copy_their_lists(self):
        orders, crowds = ([1, 0], [0, 1]), ([0, 0, 1], [0, 1, 0])
        for verdict in (Torn(0, orders, crowds), TornBook(0, 0, orders, crowds, NEST)):
            for mine, given in zip(verdict.orders + verdict.crowds, orders + crowds):
                self.assertEqual(mine, given)
                self.assertIsNot(mine, given)

    def test_judged_book_may_change_afterwards(self):
        book = copy.deepcopy(TORN)
        verdict = judge(book)
        spoil(book)
        self.assertIs(verdict.holds(TORN), True)
        book = copy.deepcopy(FREE)
        verdict = judge(book)
        spoil(book)
        self.assertIs(verdict.holds(FREE), True)
