"""The names, arguments and files of the interface, as far as it has been built."""

import importlib
import inspect
import unittest

FUNCTIONS = {
    "cards": [
        "check_book(book)", "check_places(size, places)", "first_open(book, place, shut)",
        "places_ahead(book, place, goal)", "shorten_cards(book, entries)",
        "without_places(book, gone)", "rename_book(book, names)",
    ],
    "cardtext": ["format_book(book)", "parse_book(text)"],
    "shutting": ["settle(book, order)", "settle_steps(book, order)", "standing_at(stands, goal)"],
    "sitting": [
        "seat_people(book, wishes, *, rooms=None)", "count_seated(book, wishes, *, rooms=None)",
    ],
    "rules": [
        "check_rule(rule)", "rule_of(book)", "settle_rule(rule, order)",
        "seat_by_rule(rule, wishes)", "read_cards(rule)",
    ],
    "tying": ["tie(book)"],
    "treeview": [
        "members_of(nest, places)", "ring_above(nest, places)", "least_node(nest, places)",
        "nodes_around(nest, place)", "way_home(nest, place)",
    ],
    "nestcards": ["card_of(nest, place)", "cards_of(nest)", "walk_from(nest, place)"],
    "nextopen": ["next_open(nest, place, shut)"],
    "nesttext": ["format_nest(nest)", "parse_nest(text)"],
    "faults": ["first_fault(book)", "list_faults(book)", "rest_fault(book)"],
    "witnesses": ["parting_orders(book)", "parting_crowds(book)", "least_signs(book)"],
    "finishing": ["agreeing_nest(book, entries)"],
    "judging": ["judge(book)"],
    "rulejudge": ["judge_rule(rule)"],
    "calm": ["is_calm(book, place)", "calm_places(book)", "unrest(book, place)"],
    "rooming": [
        "check_rooms(size, rooms)", "check_wishes(size, wishes)", "spread_wishes(wishes)",
        "count_wishes(size, people)",
    ],
    "choosing": [
        "choose(total, part)", "subset_number(total, chosen)", "nth_subset(total, part, number)",
    ],
    "nestcounts": ["count_closed(size)", "count_rows(size)", "count_nests(size)"],
    "closedranks": ["closed_number(nest)", "nth_closed(size, number)"],
    "gatewords": ["gate_word(nest)", "hang_tops(nest, word)"],
    "nestranks": ["nest_number(nest)", "nth_nest(size, number)", "all_nests(size)"],
    "renaming": ["rename_nest(nest, names)", "join_names(names, others)", "turn_names(names)"],
    "shapes": ["shape_code(nest)", "same_shape(nest, other)", "own_namings(nest)"],
    "shapecounts": ["count_shapes(size)", "count_closed_shapes(size)"],
    "flows": ["flow(nest, rooms, wishes)", "gone_home(nest, rooms, wishes)"],
    "swallowing": ["swallow(nest, rooms, wishes, goal)"],
    "chances": ["chances(nest, rooms, wishes, wish)", "sure_end(nest, rooms, wishes, wish)"],
    "growth": [
        "next_seat(nest, rooms, wishes, wish)", "seats_left(nest, rooms, wishes, wish)",
        "until_full(nest, rooms, wishes, wish, goal)",
    ],
    "standing": ["stands_of(nest, shut)", "groups_of(nest, shut)"],
    "feeding": [
        "feeders(nest, goal)", "feed_way(nest, goal, place)",
        "stand_by_feeders(nest, shut, goal)", "least_shutting(nest, place, goal)",
    ],
    "piles": ["pile_sizes(nest, goal)", "pile(nest, goal, number)"],
    "meeting": ["meet(nest, first, *others, meet_at=None)"],
    "reopening": ["taken_back(nest, shut, place)"],
    "linekeeping": ["line_up(nest, order)", "keeps_lines(nest)", "line_fault(nest)"],
    "cutting": ["cut(nest, gone)"],
    "inserting": ["put_in(nest, place, inner, entrances)"],
    "extracting": ["take_out(nest, places)"],
    "leading": ["lead(nest, places, goal)", "loosen(nest, places)", "do_steps(nest, steps)"],
    "peeling": ["peel(nest)", "build(size, steps)"],
    "distance": [
        "common_part(nest, other)", "fewest_steps(nest, other)", "step_count(nest, other)",
    ],
    "sides": ["side_by_side(first, *others)"],
    "arrows": ["arrows(book, kept)", "possible_ends(book, kept, place)", "free_at(book, kept)"],
    "gathering": [
        "hopeful(book, kept, *, goals)", "gather(book, kept, *, goals)",
        "together(book, kept, first, *others)",
    ],
    "crowding": [
        "largest_crowd(book, kept, *, folk, goals)", "least_crowd(book, kept, *, folk, goals)",
    ],
    "ever": ["ever_at(book, kept, goal)", "way_there(book, kept, goal, place)"],
    "fewest": ["fewest_shuttings(book, place, goal)"],
    "openreach": ["come_past(book, watched, past)"],
    "pairtable": ["pair_table(book, watched)"],
    "normalbook": ["normal_book(book, watched)"],
    "parting": ["are_alike(book, other, watched)", "parting_order(book, other, watched)"],
    "needless": ["needless_entries(book, watched)", "strike(book, entries)"],
    "rehearsing": ["change_limit(street, number)", "rehearse(street, deeds)"],
    "words": ["read_line(line)", "write_line(parts)"],
    "desk": ["run_text(text)"],
    "reports": ["report(street, names)"],
}
CLASSES = {
    "nests": {
        "Nest(size, gates)": ["loose(size)", "gate_of(self, places)", "tops(self)", "rings(self)"],
    },
    "tiers": {"Tier(size)": ["put(self, places, gate)", "finished(self)"]},
    "halfknown": {
        "HalfKnown(nest, choices)": [
            "around(nest)", "see(self, shut, stands)", "fits(self, shut, stands)",
            "ends(self, place, shut)", "sure(self, place, shut)", "share(self, place, shut, end)",
            "part(self, place, shut)", "world(self, number)", "world_number(self, nest)"],
    },
    "learning": {
        "Learner(size)": ["ask(self)", "tell(self, stands)", "found(self)", "most(size)"],
    },
    "street": {
        "Street(book)": [
            "shut(self, place)", "reopen(self, place)", "late(self, at, place)", "undo(self)",
            "do(self, deed)", "where(self, place)", "who(self, goal)"],
    },
    "desk": {"Desk()": ["run_line(self, line)"]},
    "verdicts": {
        "Verdict(is_free)": ["word(self)"],
        "Free(nest)": ["holds(self, book)", "holds_for_rule(self, rule)"],
        "Torn(place, orders, crowds)": ["holds(self, book)", "holds_for_rule(self, rule)"],
        "TornBook(entry, place, orders, crowds, nest)": [
            "holds(self, book)", "holds_for_rule(self, rule)"],
    },
}
PROPERTIES = {
    ("nests", "Nest"): ["nodes"], ("tiers", "Tier"): ["waiting"],
    ("halfknown", "HalfKnown"): ["worlds", "choices"], ("learning", "Learner"): ["asked", "done"],
    ("street", "Street"): ["free_book", "deeds", "shut_places", "stands_now", "limit"],
    ("desk", "Desk"): ["names", "street"],
}


def module_of(name):
    return importlib.import_module(f"tiedrings.{name}")


class InterfaceTest(unittest.TestCase):
    def test_functions(self):
        for name, told in FUNCTIONS.items():
            for line in told:
                function = getattr(module_of(name), line.split("(")[0])
                self.assertEqual(function.__name__ + str(inspect.signature(function)), line)
                self.assertEqual(function.__module__, f"tiedrings.{name}")

    def test_classes(self):
        for name, told in CLASSES.items():
            for line, methods in told.items():
                kind = getattr(module_of(name), line.split("(")[0])
                self.assertEqual(kind.__name__ + str(inspect.signature(kind)), line)
                self.assertEqual(kind.__module__, f"tiedrings.{name}")
                for method in methods:
                    word = method.split("(")[0]
                    self.assertIn(word, vars(kind))
                    found = getattr(kind, word)
                    self.assertEqual(word + str(inspect.signature(found)), method)

    def test_properties(self):
        for (name, word), told in PROPERTIES.items():
            for each in told:
                found = vars(getattr(module_of(name), word))[each]
                self.assertIsInstance(found, property)
                self.assertIs(found.fset is not None, each == "limit")

    def test_methods_without_an_object(self):
        for name, word, method, kind in (
            ("nests", "Nest", "loose", classmethod), ("halfknown", "HalfKnown", "around", classmethod),
            ("learning", "Learner", "most", staticmethod),
        ):
            self.assertIsInstance(vars(getattr(module_of(name), word))[method], kind)

    def test_every_module_is_there(self):
        found = set(FUNCTIONS) | set(CLASSES) | {"errors"}
        for name in found:
            self.assertEqual(module_of(name).__name__, f"tiedrings.{name}")
        self.assertEqual(len(found), 63)

    def test_generators(self):
        for name, word in (
            ("shutting", "settle_steps"), ("nestcards", "walk_from"), ("nestranks", "all_nests"),
        ):
            self.assertTrue(inspect.isgeneratorfunction(getattr(module_of(name), word)))
