import itertools
import random

from tests.helpers import Case, all_nests, some_nests
from tiedrings.cards import rename_book
from tiedrings.errors import BadPlace, BadSize
from tiedrings.nestcards import cards_of
from tiedrings.nesttext import format_nest, parse_nest
from tiedrings.renaming import join_names, rename_nest, turn_names

NEST = parse_nest("((0>1 1>0)>2 2>1)>-")


class RenamingTest(Case):
    def test_by_hand(self):
        self.assertEqual(format_nest(rename_nest(NEST, [0, 1, 2])), format_nest(NEST))
        self.assertEqual(format_nest(rename_nest(NEST, [2, 0, 1])), "((0>2 2>0)>1 1>0)>-")
        self.assertEqual(
            format_nest(rename_nest(parse_nest("0>- 1>0 (2>3 3>2)>1"), [3, 1, 0, 2])),
            "(0>2 2>0)>1 1>3 3>-")
        self.assertEqual(format_nest(rename_nest(parse_nest("0>-"), [0])), "0>-")

    def test_cards_are_renamed(self):
        rng = random.Random(1)
        for nest in list(all_nests(3)) + some_nests(16, 20, 1):
            names = list(range(nest.size))
            rng.shuffle(names)
            renamed = rename_nest(nest, names)
            self.assertEqual(cards_of(renamed), rename_book(cards_of(nest), names))

    def test_joining_and_turning(self):
        perms = [list(names) for names in itertools.permutations(range(3))]
        for names in perms:
            for others in perms:
                joined = join_names(names, others)
                self.assertEqual(
                    rename_nest(NEST, joined).nodes,
                    rename_nest(rename_nest(NEST, names), others).nodes)
                self.assertEqual(joined, [others[name] for name in names])
            back = turn_names(names)
            self.assertEqual(join_names(names, back), [0, 1, 2])
            self.assertEqual(join_names(back, names), [0, 1, 2])
        self.assertEqual(turn_names([2, 0, 1]), [1, 2, 0])
        self.assertEqual(join_names([1, 2, 0], [1, 0, 2]), [0, 2, 1])
        self.assertEqual(turn_names([0]), [0])
        self.assertEqual(turn_names(list(range(15, -1, -1))), list(range(15, -1, -1)))

    def test_nest_refuses(self):
        for names in ([], [0, 1], [0, 1, 2, 3], [9, 9]):
            self.refuses(BadSize, {"size": len(names)}, rename_nest, NEST, names)
        self.refuses(BadPlace, {"place": 3}, rename_nest, NEST, [0, 3, 0])
        self.refuses(BadPlace, {"place": 0}, rename_nest, NEST, [0, 0, 3])
        self.refuses(BadPlace, {"place": -1}, rename_nest, NEST, [0, 1, -1])

    def test_names_refuse(self):
        long = list(range(17))
        for names in ([], long):
            self.refuses(BadSize, {"size": len(names)}, turn_names, names)
            self.refuses(BadSize, {"size": len(names)}, join_names, names, [5])
        for wrong, place in (([0, 2], 2), ([0, 0], 0), ([-1, 0], -1)):
            self.refuses(BadPlace, {"place": place}, turn_names, wrong)
            self.refuses(BadPlace, {"place": place}, join_names, wrong, [])
            self.refuses(BadPlace, {"place": place}, join_names, [1, 0], wrong)
        for others in ([], [0], [0, 1, 2], long):
            self.refuses(BadSize, {"size": len(others)}, join_names, [1, 0], others)
