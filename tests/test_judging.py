from tests.helpers import Case, all_books, is_free_by_orders, some_books, some_nests
from tiedrings.errors import BadBook
from tiedrings.faults import first_fault
from tiedrings.finishing import agreeing_nest
from tiedrings.judging import judge
from tiedrings.nestcards import cards_of
from tiedrings.verdicts import Free, TornBook
from tiedrings.witnesses import parting_crowds, parting_orders


class JudgingTest(Case):
    def check(self, book):
        verdict = judge(book)
        self.assertTrue(verdict.holds(book))
        fault = first_fault(book)
        if fault is None:
            self.assertIs(type(verdict), Free)
            self.assertIs(verdict.is_free, True)
            self.assertEqual(cards_of(verdict.nest), book)
        else:
            self.assertIs(type(verdict), TornBook)
            self.assertIs(verdict.is_free, False)
            self.assertEqual((verdict.entry, verdict.place), fault)
            self.assertEqual(verdict.orders, parting_orders(book))
            self.assertEqual(verdict.crowds, parting_crowds(book))
            self.assertEqual(verdict.nest.nodes, agreeing_nest(book, fault[0] + 1).nodes)
        return verdict.is_free

    def test_all_books_with_up_to_three_places(self):
        for size in (1, 2, 3):
            for book in all_books(size):
                self.assertEqual(self.check(book), is_free_by_orders(book))

    def test_books_with_four_places(self):
        for book in some_books(4, 400, 1):
            self.assertEqual(self.check(book), is_free_by_orders(book))

    def test_greater_books(self):
        for book in some_books(16, 40, 2) + some_books(7, 100, 3):
            self.check(book)
        for nest in some_nests(16, 20, 4):
            book = cards_of(nest)
            self.assertTrue(self.check(book))
            for card in book:
                del card[-1:]
            self.check(book)

    def test_words(self):
        self.assertEqual(judge([[]]).word(), "free")
        self.assertEqual(judge([[1], [2], []]).word(), "torn")

    def test_refuses(self):
        self.refuses(BadBook, {"place": -1}, judge, [])
        self.refuses(BadBook, {"place": 2}, judge, [[1], [0], [0, 2]])
