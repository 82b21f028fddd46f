from tests.helpers import Case, all_books, some_books, some_nests
from tiedrings.errors import BadBook, BadNumber, NotTied
from tiedrings.faults import first_fault
from tiedrings.finishing import agreeing_nest
from tiedrings.nestcards import cards_of
from tiedrings.nests import Nest

BOOK = [[1, 2, 3], [0, 3, 2], [3, 0, 1], [2, 0, 1]]


class FinishingTest(Case):
    def test_example(self):
        self.assertEqual(agreeing_nest(BOOK, 0).nodes, [((x,), -1) for x in range(4)])
        self.assertEqual(
            agreeing_nest(BOOK, 1).nodes,
            [((0,), 1), ((1,), 0), ((2,), 3), ((3,), 2), ((0, 1), -1), ((2, 3), -1)])
        for entries in (2, 3, 4):
            self.refuses(NotTied, {"entry": 0, "place": 0}, agreeing_nest, BOOK, entries)

    def check(self, book):
        fault = first_fault(book)
        for entries in range(len(book) + 1):
            if fault is not None and fault[0] + 2 <= entries:
                fields = {"entry": fault[0], "place": fault[1]}
                self.refuses(NotTied, fields, agreeing_nest, book, entries)
                continue
            nest = agreeing_nest(book, entries)
            self.assertIsInstance(nest, Nest)
            cards = cards_of(nest)
            self.assertEqual(
                [card[:entries] for card in cards], [card[:entries] for card in book])
            for node, gate in nest:
                if len(node) > entries:
                    self.assertEqual(gate, -1)

    def test_first_entries_agree(self):
        for book in list(all_books(3)) + some_books(5, 100, 1) + some_books(16, 10, 2):
            self.check(book)
        for nest in some_nests(8, 20, 3) + some_nests(16, 5, 4):
            book = cards_of(nest)
            self.check(book)
            self.assertEqual(agreeing_nest(book, nest.size).nodes, nest.nodes)
            self.assertEqual(agreeing_nest(book, 0).nodes, Nest.loose(nest.size).nodes)

    def test_late_fault(self):
        book = [[1, 2, 3, 4], [0, 2, 3, 4], [4], [], []]
        self.check(book)
        self.assertEqual(
            agreeing_nest(book, 2).nodes,
            [((0,), 1), ((1,), 0), ((2,), 4), ((3,), -1), ((4,), -1), ((0, 1), 2)])
        self.refuses(NotTied, {"entry": 1, "place": 0}, agreeing_nest, book, 3)

    def test_refuses_in_order(self):
        self.refuses(BadBook, {"place": 0}, agreeing_nest, [[0]], 9)
        self.refuses(BadNumber, {"number": 5}, agreeing_nest, BOOK, 5)
        self.refuses(BadNumber, {"number": -1}, agreeing_nest, BOOK, -1)
        self.assertEqual(agreeing_nest([[]], 1).nodes, [((0,), -1)])
