import itertools
import random

from tests.helpers import Case, all_nests, chain_nest, deep_nest, some_nests
from tiedrings.errors import BadPlace, BadSize
from tiedrings.gatewords import gate_word, hang_tops
from tiedrings.nests import Nest
from tiedrings.nesttext import format_nest, parse_nest


def plain_word(nest):
    """The gate word, as point 27 tells it."""
    tops = {min(top): (top, nest.gate_of(top)) for top in nest.tops()}
    word = []
    while len(tops) > 1:
        for least in sorted(tops):
            others = [gate for key, (_, gate) in tops.items() if key != least]
            if not set(tops[least][0]) & set(others):
                word.append(tops.pop(least)[1])
                break
    return word


class GateWordsTest(Case):
    def test_by_hand(self):
        for text, word in (
            ("0>-", []), ("(0>1 1>0)>-", []), ("0>1 1>-", [1]), ("0>- 1>0", [0]),
            ("0>- 1>-", [-1]), ("0>2 1>2 2>-", [2, 2]), ("0>1 1>2 2>-", [1, 2]),
            ("0>- 1>0 2>1", [1, 0]), ("(0>2 2>0)>- 1>2 3>1", [1, 2]),
            ("(0>1 1>0)>3 2>0 3>-", [0, 3]),
        ):
            nest = parse_nest(text)
            self.assertEqual(gate_word(nest), word, text)
            self.assertEqual(hang_tops(nest, word).nodes, nest.nodes)

    def test_against_the_telling(self):
        for nest in [x for n in (1, 2, 3, 4) for x in all_nests(n)] + some_nests(16, 60, 1):
            word = gate_word(nest)
            self.assertEqual(word, plain_word(nest))
            self.assertEqual(len(word), len(nest.tops()) - 1)
            self.assertEqual(hang_tops(nest, word).nodes, nest.nodes)

    def test_each_word_belongs_to_one_nest(self):
        for text in ("0>- 1>- 2>-", "(0>1 1>0)>- 2>- 3>-", "(0>2 2>0)>- 1>- 3>-", "(0>1 1>0)>-"):
            nest = parse_nest(text)
            letters = range(-1, nest.size)
            seen = set()
            for word in itertools.product(letters, repeat=len(nest.tops()) - 1):
                hung = hang_tops(nest, list(word))
                self.assertEqual(hung.tops(), nest.tops())
                self.assertEqual(gate_word(hung), list(word))
                seen.add(format_nest(hung))
            self.assertEqual(len(seen), (nest.size + 1) ** (len(nest.tops()) - 1))

    def test_gates_of_tops_do_not_count(self):
        chain = chain_nest(16)
        rng = random.Random(1)
        for _ in range(20):
            word = [rng.randrange(-1, 16) for _ in range(15)]
            hung = hang_tops(chain, word)
            self.assertEqual(hung.nodes, hang_tops(Nest.loose(16), word).nodes)
            self.assertEqual(gate_word(hung), word)
        self.assertEqual(hang_tops(chain, [-1] * 15).nodes, Nest.loose(16).nodes)
        self.assertEqual(hang_tops(Nest.loose(16), gate_word(chain)).nodes, chain.nodes)

    def test_inside_stays(self):
        nest = parse_nest("((0>1 1>0)>2 2>1)>- 3>2")
        self.assertEqual(format_nest(hang_tops(nest, [3])), "((0>1 1>0)>2 2>1)>3 3>-")
        self.assertEqual(hang_tops(deep_nest(16), []).nodes, deep_nest(16).nodes)

    def test_refuses(self):
        nest = parse_nest("0>1 1>2 2>-")
        for word in ([], [0], [9, 9, 9]):
            self.refuses(BadSize, {"size": len(word)}, hang_tops, nest, word)
        self.refuses(BadSize, {"size": 1}, hang_tops, deep_nest(3), [0])
        self.refuses(BadPlace, {"place": 3}, hang_tops, nest, [3, -2])
        self.refuses(BadPlace, {"place": -2}, hang_tops, nest, [-1, -2])
