from tests.helpers import Case, all_books, all_nests, deep_nest, round_nest, some_books, some_nests
from tiedrings.errors import BadBook, NotTied
from tiedrings.faults import first_fault
from tiedrings.nestcards import cards_of
from tiedrings.nests import Nest
from tiedrings.tying import tie


class TyingTest(Case):
    def test_example(self):
        self.assertEqual(
            tie([[1, 2], [0, 2], [1, 0]]).nodes,
            [((0,), 1), ((1,), 0), ((2,), 1), ((0, 1), 2), ((0, 1, 2), -1)])

    def test_every_small_nest(self):
        for size in (1, 2, 3, 4):
            for nest in all_nests(size):
                again = tie(cards_of(nest))
                self.assertIsInstance(again, Nest)
                self.assertEqual(again.nodes, nest.nodes)

    def test_greater_nests(self):
        for nest in some_nests(16, 30, 1) + [deep_nest(16), round_nest(16), Nest.loose(16)]:
            self.assertEqual(tie(cards_of(nest)).nodes, nest.nodes)

    def test_every_small_book(self):
        tied = 0
        for book in all_books(3):
            if first_fault(book) is None:
                self.assertEqual(cards_of(tie(book)), book)
                tied += 1
            else:
                entry, place = first_fault(book)
                self.refuses(NotTied, {"entry": entry, "place": place}, tie, book)
        self.assertEqual(tied, 36)

    def test_least_fault(self):
        book = [[1, 2, 3], [0, 3, 2], [3, 0, 1], [2, 0, 1]]
        self.refuses(NotTied, {"entry": 0, "place": 0}, tie, book)
        book = [[1, 2, 3, 4], [0, 2, 3, 4], [4], [], []]
        self.refuses(NotTied, {"entry": 1, "place": 0}, tie, book)
        for book in some_books(9, 30, 2):
            entry, place = first_fault(book)
            self.refuses(NotTied, {"entry": entry, "place": place}, tie, book)

    def test_refuses(self):
        self.refuses(BadBook, {"place": -1}, tie, [])
        self.refuses(BadBook, {"place": 0}, tie, [[1, 1], [0]])
