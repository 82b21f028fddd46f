"""The examples of the document, and those of README.md, run as they stand there."""

import builtins
import doctest
import pathlib
import unittest

ROOT = pathlib.Path(__file__).resolve().parent.parent

EXAMPLES = """
>>> from tiedrings.nesttext import parse_nest, format_nest
>>> from tiedrings.nestcards import cards_of
>>> nest = parse_nest("((1>0 0>1)>2 2>1)>-")
>>> format_nest(nest)
'((0>1 1>0)>2 2>1)>-'
>>> nest.nodes
[((0,), 1), ((1,), 0), ((2,), 1), ((0, 1), 2), ((0, 1, 2), -1)]
>>> cards_of(nest)
[[1, 2], [0, 2], [1, 0]]

>>> from tiedrings.faults import first_fault
>>> from tiedrings.witnesses import parting_orders, parting_crowds, least_signs
>>> from tiedrings.shutting import settle
>>> book = [[1, 2, 3], [0, 3, 2], [3, 0, 1], [2, 0, 1]]
>>> first_fault(book)
(0, 0)
>>> parting_orders(book)
([1, 0], [0, 1])
>>> settle(book, [1, 0]), settle(book, [0, 1])
([2, 2, 2, 3], [3, 3, 2, 3])
>>> parting_crowds(book), least_signs(book)
(([0, 0, 1], [0, 1, 0]), (2, 3))

>>> from tiedrings.feeding import feeders, least_shutting
>>> from tiedrings.piles import pile_sizes
>>> feeders(nest, 1), feeders(nest, 2)
([((0,), 1), ((2,), 1)], [((0, 1), 2)])
>>> least_shutting(nest, 0, 2), pile_sizes(nest, 1), pile_sizes(nest, 2)
([0, 1], [0, 1, 2], [0, 2])
>>> from tiedrings.flows import flow
>>> from tiedrings.chances import chances
>>> flow(nest, [1, 1, 1], [3, 0, 0])
([1, 1, 1], [None, None, 0, 1, 0])
>>> [end for end, before in chances(nest, [1, 1, 1], [2, 0, 0], 0)]
[0, 1, 2]

>>> from tiedrings.normalbook import normal_book
>>> normal_book([[1, 2], [2, 0], [0, 1]], [0])
[[1, 2], [2], []]
>>> from tiedrings.halfknown import HalfKnown
>>> half = HalfKnown.around(nest)
>>> half.choices, half.worlds
([[1], [0], [0, 1], [2], [-1]], 2)
>>> half.ends(2, [2]), half.see([2], [0, 1, 1])
([(0, 1), (1, 1)], 1)

>>> from tiedrings.desk import run_text
>>> run_text("places ada bo\\ncard ada : bo\\nshut ada\\nwhere ada\\nshut ada\\njudge")
['  3: bo', '  4: refused', '  5: free 0>1 1>-']
"""


class ExamplesTest(unittest.TestCase):
    def tearDown(self):
        # What doctest shows is kept as a builtin, which other tests would find.
        vars(builtins).pop("_", None)

    def run_examples(self, text, name):
        told = []
        examples = doctest.DocTestParser().get_doctest(text, {}, name, name, 0)
        results = doctest.DocTestRunner().run(examples, out=told.append)
        self.assertEqual(results.failed, 0, "".join(told))
        self.assertGreater(results.attempted, 10)

    def test_document(self):
        self.run_examples(EXAMPLES, "document")

    def test_readme(self):
        self.run_examples((ROOT / "README.md").read_text().replace("```", ""), "README.md")
