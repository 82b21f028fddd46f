import itertools
import math
import random

from tests.helpers import Case, all_nests, chain_nest, deep_nest, round_nest, some_nests
from tiedrings.nestcounts import count_nests
from tiedrings.nestranks import nth_nest
from tiedrings.nests import Nest
from tiedrings.nesttext import parse_nest
from tiedrings.renaming import rename_nest
from tiedrings.shapes import own_namings, same_shape, shape_code


def plain_renamed(nest, names):
    """The renamed nodes with their gates, as something that can stand in a set."""
    return frozenset(
        (frozenset(names[place] for place in node), gate if gate == -1 else names[gate])
        for node, gate in nest.nodes)


def mixed_names(size, rng):
    names = list(range(size))
    rng.shuffle(names)
    return names


class ShapesTest(Case):
    def test_all_small_nests(self):
        for size in range(1, 5):
            codes = {}
            for nest in all_nests(size):
                plain = plain_renamed(nest, range(size))
                renamed = [plain_renamed(nest, p) for p in itertools.permutations(range(size))]
                self.assertEqual(own_namings(nest), renamed.count(plain))
                shape = frozenset(renamed)
                self.assertIs(type(shape_code(nest)), str)
                self.assertEqual(codes.setdefault(shape_code(nest), shape), shape)
                self.assertEqual(math.factorial(size) // own_namings(nest), len(shape))
            self.assertEqual(len(set(codes.values())), len(codes))

    def test_same_shape_of_all_pairs(self):
        for size in (1, 2, 3):
            nests = list(all_nests(size))
            for nest, other in itertools.product(nests, nests):
                names = same_shape(nest, other)
                wanted = [
                    list(p) for p in itertools.permutations(range(size))
                    if plain_renamed(nest, p) == plain_renamed(other, range(size))
                ]
                if wanted:
                    self.assertIn(names, wanted)
                else:
                    self.assertIsNone(names)

    def test_five_places(self):
        shapes = {}
        for number in range(count_nests(5)):
            nest = nth_nest(5, number)
            shapes.setdefault(shape_code(nest), []).append(nest)
        self.assertEqual(len(shapes), 169)
        for nests in shapes.values():
            self.assertEqual(math.factorial(5) // own_namings(nests[0]), len(nests))

    def test_renamed_nests(self):
        rng = random.Random(1)
        for nest in some_nests(16, 40, 1) + [
            deep_nest(16), round_nest(16), chain_nest(16), Nest.loose(16), Nest.loose(1),
        ]:
            other = rename_nest(nest, mixed_names(nest.size, rng))
            self.assertEqual(shape_code(nest), shape_code(other))
            self.assertEqual(own_namings(nest), own_namings(other))
            names = same_shape(nest, other)
            self.assertEqual(rename_nest(nest, names).nodes, other.nodes)

    def test_other_shapes(self):
        nests = [deep_nest(16), round_nest(16), chain_nest(16), Nest.loose(16), deep_nest(15)]
        for nest, other in itertools.permutations(nests, 2):
            self.assertIsNone(same_shape(nest, other))
            self.assertNotEqual(shape_code(nest), shape_code(other))

    def test_entrances_count(self):
        one = parse_nest("((0>1 1>0)>2 2>3 3>0)>-")
        for text, same in (
            ("((0>1 1>0)>2 2>3 3>1)>-", True), ("((0>1 1>0)>3 3>2 2>0)>-", True),
            ("((0>1 1>0)>2 (2>3 3>2)>1)>-", False), ("((0>1 1>2 2>0)>3 3>0)>-", False),
        ):
            self.assertIs(same_shape(one, parse_nest(text)) is not None, same)

    def test_where_a_top_leads_counts(self):
        near = parse_nest("((0>1 1>0)>2 2>0)>- 3>0")
        far = parse_nest("((0>1 1>0)>2 2>0)>- 3>1")
        self.assertIsNone(same_shape(near, far))
        self.assertNotEqual(shape_code(near), shape_code(far))

    def test_own_namings(self):
        for text, number in (
            ("0>-", 1), ("0>- 1>-", 2), ("(0>1 1>0)>-", 2), ("0>- 1>0 2>0 3>0", 6),
            ("(0>1 1>0)>- 2>0", 1), ("(0>1 1>0)>- 2>0 3>1", 2), ("(0>1 1>0)>- (2>3 3>2)>-", 8),
            ("((0>1 1>0)>2 (2>3 3>2)>0)>-", 2), ("((0>1 1>0)>2 2>0)>-", 1),
        ):
            self.assertEqual(own_namings(parse_nest(text)), number, text)

    def test_great_numbers(self):
        self.assertEqual(own_namings(Nest.loose(16)), math.factorial(16))
        star = Nest(16, [((0,), -1)] + [((place,), 0) for place in range(1, 16)])
        self.assertEqual(own_namings(star), math.factorial(15))
        self.assertEqual(own_namings(round_nest(16)), 16)
        self.assertEqual(own_namings(deep_nest(16)), 1)
        self.assertEqual(own_namings(chain_nest(16)), 1)
        pairs = [((p,), p ^ 1) for p in range(16)] + [((p, p + 1), -1) for p in range(0, 16, 2)]
        self.assertEqual(own_namings(Nest(16, pairs)), math.factorial(8) * 2 ** 8)
        turned = Nest(16, list(reversed(pairs)))
        self.assertIsNotNone(same_shape(Nest(16, pairs), turned))
