from tests.helpers import Case, all_books, some_books
from tiedrings.cardtext import format_book, parse_book
from tiedrings.errors import BadBook, BadLine


class CardTextTest(Case):
    def test_example(self):
        self.assertEqual(format_book([[1, 2], [0], []]), "0: 1 2\n1: 0\n2:")
        self.assertEqual(parse_book("0: 1 2\n1: 0\n2:"), [[1, 2], [0], []])

    def test_there_and_back(self):
        for book in list(all_books(3)) + some_books(16, 20, 3) + [[[]]]:
            self.assertEqual(parse_book(format_book(book)), book)

    def test_sixteen_places(self):
        book = [[] for _ in range(16)]
        book[15] = [10, 0, 11]
        self.assertTrue(format_book(book).endswith("\n14:\n15: 10 0 11"))

    def test_format_refuses(self):
        self.refuses(BadBook, {"place": -1}, format_book, [])
        self.refuses(BadBook, {"place": 1}, format_book, [[], [1]])

    def test_lines_that_are_no_cards(self):
        for line in (
            "", "0", ":", "0 :", "0:1", "0: ", "0:  1", " 0:", "0: 1 ", "0:\t1", "0: 1\t", "0: 01",
            "0: 00", "0: -1", "0: +1", "0: a", "0: 1,2", "00:", "1:", "0: 1:", "0: 1_0", "0: 1.",
            "0: 1\r", "0: 1\x0b1: 0", "0: 1\x0c", "-0:", "0x:", "0: 0x1",
        ):
            with self.subTest(line):
                self.refuses(BadLine, {"line": 0}, parse_book, line)
                self.refuses(BadLine, {"line": 0}, parse_book, line + "\n1: x")

    def test_number_of_the_first_wrong_line(self):
        self.refuses(BadLine, {"line": 1}, parse_book, "0: 1\n")
        self.refuses(BadLine, {"line": 1}, parse_book, "0: 1\n0: 1\n2: x")
        self.refuses(BadLine, {"line": 2}, parse_book, "0: 1\n1: 0\n2: 03")
        self.refuses(BadLine, {"line": 1}, parse_book, "0:\n\n2:")
        self.refuses(BadLine, {"line": 0}, parse_book, "\n")
        self.refuses(BadLine, {"line": 16}, parse_book, "".join(f"{k}:\n" for k in range(16)))

    def test_digits(self):
        self.refuses(BadBook, {"place": 0}, parse_book, "0: 999999999")
        self.refuses(BadLine, {"line": 0}, parse_book, "0: 1000000000")
        self.refuses(BadLine, {"line": 1}, parse_book, "0: 1\n1: " + "7" * 9000)
        self.refuses(BadLine, {"line": 0}, parse_book, "7" * 9000 + ":")
        self.refuses(BadLine, {"line": 0}, parse_book, "0: 0000000000")
        self.refuses(BadLine, {"line": 1}, parse_book, "0: 1\n000000001: 0")

    def test_book_is_checked_last(self):
        self.refuses(BadBook, {"place": 0}, parse_book, "0: 0\n1: 1")
        self.refuses(BadBook, {"place": 1}, parse_book, "0:\n1: 0 0")
        self.refuses(BadLine, {"line": 1}, parse_book, "0: 0\n1: 01")
        long = "\n".join(f"{k}:" for k in range(17))
        self.refuses(BadBook, {"place": -1}, parse_book, long)
        longer = "\n".join(f"{k}: 200" for k in range(120))
        self.refuses(BadBook, {"place": -1}, parse_book, longer)
        self.refuses(BadLine, {"line": 17}, parse_book, long + "\n18:")
