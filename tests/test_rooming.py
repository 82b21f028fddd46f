from tests.helpers import Case
from tiedrings.errors import BadPlace, BadRooms, BadSize, BadWishes
from tiedrings.rooming import check_rooms, check_wishes, count_wishes, spread_wishes


class RoomingTest(Case):
    def test_good_lists(self):
        for check in (check_rooms, check_wishes):
            self.assertIsNone(check(1, [0]))
            self.assertIsNone(check(1, [30]))
            self.assertIsNone(check(16, list(range(15, 31))))

    def test_refused_lists(self):
        for check, error in ((check_rooms, BadRooms), (check_wishes, BadWishes)):
            for size in (0, 17, -3):
                self.refuses(BadSize, {"size": size}, check, size, [99])
            self.refuses(error, {"place": -1}, check, 3, [99, 1])
            self.refuses(error, {"place": -1}, check, 3, [1, 1, 1, 1])
            self.refuses(error, {"place": -1}, check, 1, [])
            self.refuses(error, {"place": 0}, check, 2, [31, -1])
            self.refuses(error, {"place": 1}, check, 3, [30, -1, 31])
            self.refuses(error, {"place": 15}, check, 16, [0] * 15 + [31])

    def test_spread(self):
        self.assertEqual(spread_wishes([2, 0, 1]), [0, 0, 2])
        self.assertEqual(spread_wishes([]), [])
        self.assertEqual(spread_wishes([0, 0]), [])
        self.assertEqual(spread_wishes([0] * 20 + [40]), [20] * 40)

    def test_count(self):
        self.assertEqual(count_wishes(4, [3, 0, 3, 1]), [1, 1, 0, 2])
        self.assertEqual(count_wishes(2, []), [0, 0])
        self.assertEqual(count_wishes(1, [0] * 500), [500])
        self.assertEqual(count_wishes(16, spread_wishes(list(range(16)))), list(range(16)))

    def test_count_refuses(self):
        self.refuses(BadSize, {"size": 0}, count_wishes, 0, [5])
        self.refuses(BadSize, {"size": 17}, count_wishes, 17, [])
        self.refuses(BadPlace, {"place": 2}, count_wishes, 2, [0, 0, 2, -1])
        self.refuses(BadPlace, {"place": -1}, count_wishes, 2, [0, -1, 2])
