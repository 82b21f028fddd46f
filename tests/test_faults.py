import itertools

from tests.helpers import Case, all_books, all_nests, is_free_by_orders, some_books, some_nests
from tiedrings.errors import BadBook
from tiedrings.faults import first_fault, list_faults, rest_fault
from tiedrings.nestcards import cards_of

BOOK = [[1, 2, 3], [0, 3, 2], [3, 0, 1], [2, 0, 1]]


def plain_faults(book):
    """The faults, entry by entry as point 15 tells it."""
    faults = []
    for place, card in enumerate(book):
        for at, entry in enumerate(card):
            following = (card[at + 1:] + [None])[0]
            passed = {place, *card[:at + 1]}
            asked = ([item for item in book[entry] if item not in passed] + [None])[0]
            if following != asked:
                faults.append((at, place))
    return sorted(faults)


def plain_rest(book):
    """The first rest fault, as point 18 tells it."""
    for place, card in enumerate(book):
        for at, entry in enumerate(card):
            behind = card[at + 1:]
            remaining = [item for item in book[entry] if item not in [place] + card[:at]]
            alone = [a for a in range(len(book)) if (a in behind) != (a in remaining)]
            if alone:
                return place, at, alone[:1]
            for a, b in itertools.combinations(range(len(book)), 2):
                if a in behind and b in behind:
                    ahead = behind.index(a) < behind.index(b)
                    if ahead != (remaining.index(a) < remaining.index(b)):
                        return place, at, [a, b]
    return None


class FaultsTest(Case):
    def test_example(self):
        self.assertEqual(first_fault(BOOK), (0, 0))
        self.assertEqual(list_faults(BOOK), [(0, 0), (0, 1)])
        self.assertEqual(rest_fault(BOOK), (0, 0, [2, 3]))

    def test_all_small_books(self):
        for size in (1, 2, 3):
            for book in all_books(size):
                self.compare(book)

    def test_greater_books(self):
        for book in some_books(4, 400, 1) + some_books(7, 100, 2) + some_books(16, 30, 3):
            self.compare(book)

    def compare(self, book):
        faults = plain_faults(book)
        self.assertEqual(list_faults(book), faults)
        self.assertEqual(first_fault(book), faults[0] if faults else None)
        self.assertEqual(rest_fault(book), plain_rest(book))
        self.assertEqual(rest_fault(book) is None, not faults)

    def test_free_exactly_without_a_fault(self):
        for size in (1, 2, 3):
            for book in all_books(size):
                self.assertEqual(first_fault(book) is None, is_free_by_orders(book), book)
        for book in some_books(4, 300, 4):
            self.assertEqual(first_fault(book) is None, is_free_by_orders(book), book)

    def test_no_fault_in_cards_of_nests(self):
        for nest in list(all_nests(3)) + some_nests(16, 20, 1):
            book = cards_of(nest)
            self.assertIsNone(first_fault(book))
            self.assertEqual(list_faults(book), [])
            self.assertIsNone(rest_fault(book))

    def test_bent_cards_of_nests(self):
        for nest in some_nests(9, 30, 2):
            book = cards_of(nest)
            for card in book:
                if len(card) > 1:
                    card[-2:] = card[:-3:-1]
                    self.compare(book)
                    break

    def test_one_place_missing(self):
        self.assertEqual(first_fault([[1], [2], []]), (0, 0))
        self.assertEqual(rest_fault([[1], [2], []]), (0, 0, [2]))
        self.assertEqual(list_faults([[1], [0], []]), [])
        self.assertEqual(rest_fault([[1, 2, 3], [2, 0, 3], [], []]), (0, 1, [3]))

    def test_refuses(self):
        for function in (first_fault, list_faults, rest_fault):
            self.refuses(BadBook, {"place": -1}, function, [])
            self.refuses(BadBook, {"place": 1}, function, [[1], [0, 0], [2]])
