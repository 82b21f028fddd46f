from tests.helpers import Case, all_nests, chain_nest, deep_nest, round_nest
from tiedrings.errors import BadSize
from tiedrings.nestcards import cards_of
from tiedrings.nests import Nest
from tiedrings.nesttext import format_nest, parse_nest
from tiedrings.sides import side_by_side


class SidesTest(Case):
    def test_by_hand(self):
        ring, chain = parse_nest("(0>1 1>0)>-"), parse_nest("0>- 1>0")
        self.assertEqual(format_nest(side_by_side(ring)), "(0>1 1>0)>-")
        self.assertEqual(format_nest(side_by_side(ring, chain)), "(0>1 1>0)>- 2>- 3>2")
        self.assertEqual(format_nest(side_by_side(chain, ring)), "0>- 1>0 (2>3 3>2)>-")
        self.assertEqual(
            format_nest(side_by_side(chain, Nest.loose(1), parse_nest("(0>1 1>0)>2 2>-"))),
            "0>- 1>0 2>- (3>4 4>3)>5 5>-")

    def test_cards_are_moved(self):
        nests = [x for n in (1, 2, 3) for x in all_nests(n)]
        for nest in nests:
            for other in nests[::3]:
                cards = cards_of(nest) + [
                    [nest.size + entry for entry in card] for card in cards_of(other)]
                joined = side_by_side(nest, other)
                self.assertEqual(cards_of(joined), cards)
                third = side_by_side(nest, other, nest)
                self.assertEqual(third.nodes, side_by_side(joined, nest).nodes)
                self.assertEqual(third.nodes, side_by_side(nest, side_by_side(other, nest)).nodes)

    def test_sixteen_places(self):
        self.assertEqual(side_by_side(*[Nest.loose(1)] * 16).nodes, Nest.loose(16).nodes)
        self.assertEqual(side_by_side(deep_nest(16)).nodes, deep_nest(16).nodes)
        joined = side_by_side(round_nest(7), chain_nest(8), Nest.loose(1))
        self.assertEqual(joined.size, 16)
        self.assertEqual(joined.gate_of(tuple(range(7))), -1)
        self.assertEqual(joined.gate_of((14,)), 13)
        self.assertEqual(joined.gate_of((15,)), -1)

    def test_refuses(self):
        self.refuses(BadSize, {"size": 17}, side_by_side, deep_nest(16), Nest.loose(1))
        self.refuses(BadSize, {"size": 17}, side_by_side, *[Nest.loose(1)] * 17)
        self.refuses(BadSize, {"size": 48}, side_by_side, *[round_nest(16)] * 3)
