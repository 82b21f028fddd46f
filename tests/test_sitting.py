import itertools
import random

from tests.helpers import Case, all_books, is_free_by_orders, plain_seats, some_books
from tiedrings.errors import BadBook, BadPlace, BadRooms
from tiedrings.sitting import count_seated, seat_people

BOOK = [[1, 2, 3], [0, 3, 2], [3, 0, 1], [2, 0, 1]]


class SittingTest(Case):
    def test_one_room_each(self):
        self.assertEqual(seat_people(BOOK, [0, 0, 1]), [0, 1, 3])
        self.assertEqual(seat_people(BOOK, [0, 1, 0]), [0, 1, 2])
        self.assertEqual(seat_people(BOOK, []), [])
        self.assertEqual(seat_people([[], []], [0, 0, 1, 1]), [0, -1, 1, -1])

    def test_rooms(self):
        self.assertEqual(seat_people(BOOK, [0, 0, 0, 0], rooms=[2, 0, 1, 0]), [0, 0, 2, -1])
        self.assertEqual(seat_people(BOOK, [1] * 4, rooms=[0, 0, 0, 0]), [-1] * 4)
        self.assertEqual(seat_people([[]], [0] * 31, rooms=[30]), [0] * 30 + [-1])
        self.assertEqual(seat_people(BOOK, [2, 2], rooms=[1, 1, 1, 1]), [2, 3])

    def test_counts(self):
        self.assertEqual(count_seated(BOOK, [0, 0, 1]), [1, 1, 0, 1])
        self.assertEqual(count_seated(BOOK, [0] * 7, rooms=[2, 0, 3, 1]), [2, 0, 3, 1])
        self.assertEqual(count_seated(BOOK, []), [0, 0, 0, 0])
        self.assertEqual(count_seated([[]], [0] * 500, rooms=[30]), [30])

    def test_against_walking(self):
        rng = random.Random(1)
        for book in some_books(5, 60, 6) + some_books(16, 20, 7):
            size = len(book)
            wishes = [rng.randrange(size) for _ in range(rng.randrange(3 * size))]
            rooms = [rng.choice([0, 1, 1, 2, 30]) for _ in range(size)]
            self.assertEqual(seat_people(book, wishes), plain_seats(book, wishes, [1] * size))
            seats = plain_seats(book, wishes, rooms)
            self.assertEqual(seat_people(book, wishes, rooms=rooms), seats)
            counts = [seats.count(place) for place in range(size)]
            self.assertEqual(count_seated(book, wishes, rooms=rooms), counts)

    def test_refuses_in_order(self):
        for function in (seat_people, count_seated):
            self.refuses(BadBook, {"place": 0}, function, [[0]], [5], rooms=[])
            self.refuses(BadPlace, {"place": 4}, function, BOOK, [0, 0, 4, -1], rooms=[])
            self.refuses(BadPlace, {"place": -1}, function, BOOK, [0, -1, 4])
            self.refuses(BadRooms, {"place": -1}, function, BOOK, [0, 0], rooms=[99, 1, 1])
            self.refuses(BadRooms, {"place": -1}, function, BOOK, [0, 0], rooms=[])
            self.refuses(BadRooms, {"place": 1}, function, BOOK, [], rooms=[30, 31, -1, 0])
            self.refuses(BadRooms, {"place": 3}, function, BOOK, [], rooms=[30, 0, 1, -1])

    def test_free_books_seat_alike_in_every_order_of_coming(self):
        for book in list(all_books(2)) + list(all_books(3)):
            alike = True
            for rooms in itertools.product(range(3), repeat=len(book)):
                for crowd in itertools.combinations_with_replacement(range(len(book)), 3):
                    counts = {
                        tuple(count_seated(book, list(wishes), rooms=list(rooms)))
                        for wishes in itertools.permutations(crowd)
                    }
                    alike = alike and len(counts) == 1
            self.assertEqual(alike, is_free_by_orders(book), book)
