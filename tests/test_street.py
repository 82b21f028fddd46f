import random

from tests.helpers import Case, deep_nest, plain_stands, some_books, some_nests, spoil
from tiedrings.errors import BadBook, BadDeed, BadNumber, BadPlace, Full, NotFree, TiedError
from tiedrings.nestcards import cards_of
from tiedrings.street import Street

FREE = [[1, 2], [0, 2], [1, 0], []]
TORN = [[1, 2, 3], [0, 3, 2], [3, 0, 1], [2, 0, 1]]


class PlainStreet:
    """A street that keeps a whole row for each deed, and reads everything off the row."""

    def __init__(self, book, free):
        self.book, self.free = book, free
        self.limit = len(book)
        self.rows = [[]]

    def shut_after(self, row):
        """The places that are shut after the row, or None if a deed of it is not possible."""
        shut = []
        for word, place in row:
            if (word == "shut") == (place in shut):
                return None
            shut = shut + [place] if word == "shut" else [x for x in shut if x != place]
        return shut

    def told(self):
        row = self.rows[-1]
        shut = self.shut_after(row)
        return {
            "deeds": row, "shut_places": sorted(shut), "stands_now": plain_stands(self.book, shut),
            "limit": self.limit, "free_book": self.free, "size": len(self.book),
        }

    def error_of(self, deed):
        """The class of the error that the deed raises, or None; the checks in their order."""
        row, n = self.rows[-1], len(self.book)
        if deed[0] == "undo":
            return BadDeed if len(self.rows) == 1 else None
        if deed[0] == "limit":
            low = len(self.shut_after(row))
            return None if low <= deed[1] <= n else BadNumber
        if deed[0] == "late" and not 0 <= deed[1] <= len(row):
            return BadNumber
        if not 0 <= deed[-1] < n:
            return BadPlace
        if deed[0] == "reopen" and not self.free:
            return NotFree
        after = self.row_with(deed)
        if self.shut_after(after) is None:
            return BadDeed
        times = range(1, len(after) + 1) if deed[0] == "late" else [len(after)]
        most = max(len(self.shut_after(after[:at])) for at in times)
        return Full if deed[0] != "reopen" and most > self.limit else None

    def row_with(self, deed):
        row = self.rows[-1]
        if deed[0] == "late":
            return row[:deed[1]] + [("shut", deed[2])] + row[deed[1]:]
        return row + [deed]

    def do(self, deed):
        if deed[0] == "undo":
            self.rows.pop()
        elif deed[0] == "limit":
            self.limit = deed[1]
        else:
            self.rows.append(self.row_with(deed))


def told_of(street):
    """Everything that can be read off the street."""
    return {
        "deeds": street.deeds, "shut_places": street.shut_places, "stands_now": street.stands_now,
        "limit": street.limit, "free_book": street.free_book, "size": street.size,
    }


def some_deed(size, long, rng):
    """A deed that is often possible."""
    word = rng.choice(["shut"] * 4 + ["reopen", "late", "late", "undo", "limit"])
    if word == "undo":
        return ("undo",)
    if word == "limit":
        return ("limit", rng.randrange(-1, size + 2))
    place = rng.randrange(-1, size + 1) if rng.random() < 0.1 else rng.randrange(size)
    if word == "late":
        return ("late", rng.randrange(-1, long + 2), place)
    return (word, place)


class DeedsTest(Case):
    def check_walk(self, book, free, rng, number):
        street, plain = Street(book), PlainStreet(book, free)
        for _ in range(number):
            self.assertEqual(told_of(street), plain.told())
            deed = some_deed(len(book), len(plain.rows[-1]), rng)
            error = plain.error_of(deed)
            if error is None:
                self.assertIsNone(street.do(deed))
                plain.do(deed)
                continue
            with self.assertRaises(TiedError) as caught:
                street.do(deed)
            self.assertIs(type(caught.exception), error, (plain.told(), deed))
        for place in range(len(book)):
            self.assertEqual(street.where(place), street.stands_now[place])
        for goal in range(-1, len(book)):
            wanted = [x for x, stand in enumerate(street.stands_now) if stand == goal]
            self.assertEqual(street.who(goal), wanted)

    def test_walks(self):
        rng = random.Random(1)
        for size in (1, 2, 3, 4, 6, 16):
            for nest in some_nests(size, 12, size):
                self.check_walk(cards_of(nest), True, rng, 80)
        for book in some_books(5, 12, 2) + some_books(16, 6, 3) + [TORN]:
            self.check_walk(book, False, rng, 80)

    def test_methods_and_written_deeds(self):
        street = Street(FREE)
        for deed, told in (
            (("shut", 0), [("shut", 0)]), (("late", 0, 1), [("shut", 1), ("shut", 0)]),
            (("reopen", 1), [("shut", 1), ("shut", 0), ("reopen", 1)]),
            (("undo",), [("shut", 1), ("shut", 0)]), (("limit", 3), [("shut", 1), ("shut", 0)]),
        ):
            self.assertIsNone(street.do(deed))
            self.assertEqual(street.deeds, told)
        self.assertEqual((street.limit, street.stands_now), (3, [2, 2, 2, 3]))
        other = Street(FREE)
        self.assertIsNone(other.shut(0))
        self.assertIsNone(other.late(0, 1))
        self.assertIsNone(other.reopen(1))
        self.assertIsNone(other.undo())
        other.limit = 3
        self.assertEqual(told_of(other), told_of(street))
        for deed in (("walk", 0), ("", 0), ("Shut", 0), ("reopened", 1), ("look",)):
            self.refuses(BadDeed, {}, street.do, deed)
        self.assertEqual(told_of(other), told_of(street))

    def test_new_street(self):
        street = Street(TORN)
        self.assertEqual(told_of(street), {
            "deeds": [], "shut_places": [], "stands_now": [0, 1, 2, 3], "limit": 4,
            "free_book": False, "size": 4})
        self.assertIs(Street(FREE).free_book, True)
        self.assertEqual(Street([[]]).who(-1), [])
        self.assertEqual(Street([[]]).who(0), [0])
        self.refuses(BadBook, {"place": -1}, Street, [])
        self.refuses(BadBook, {"place": 1}, Street, [[], [0, 0]])

    def test_where_and_who(self):
        street = Street(TORN)
        for place in (1, 0, 2):
            street.shut(place)
        self.assertEqual(street.stands_now, [3, 3, 3, 3])
        self.assertEqual(street.where(1), 3)
        self.assertEqual(street.who(3), [0, 1, 2, 3])
        street.shut(3)
        self.assertEqual((street.where(2), street.who(-1), street.who(3)), (-1, [0, 1, 2, 3], []))
        for place in (4, -1):
            self.refuses(BadPlace, {"place": place}, street.where, place)
        for goal in (4, -2):
            self.refuses(BadPlace, {"place": goal}, street.who, goal)


class OrderOfChecksTest(Case):
    def test_shut(self):
        street = Street(FREE)
        street.limit = 1
        self.refuses(BadPlace, {"place": 4}, street.shut, 4)
        self.refuses(BadPlace, {"place": -1}, street.shut, -1)
        street.shut(2)
        self.refuses(BadDeed, {}, street.shut, 2)
        self.refuses(Full, {}, street.shut, 1)
        self.assertEqual(street.deeds, [("shut", 2)])

    def test_reopen(self):
        street = Street(TORN)
        street.shut(0)
        self.refuses(BadPlace, {"place": 4}, street.reopen, 4)
        self.refuses(NotFree, {}, street.reopen, 0)
        self.refuses(NotFree, {}, street.reopen, 1)
        street = Street(FREE)
        self.refuses(BadPlace, {"place": -1}, street.reopen, -1)
        self.refuses(BadDeed, {}, street.reopen, 1)
        street.shut(1)
        street.limit = 1
        self.assertIsNone(street.reopen(1))
        self.refuses(BadDeed, {}, street.reopen, 1)

    def test_late(self):
        street = Street(FREE)
        for deed in (("shut", 0), ("reopen", 0), ("shut", 1), ("limit", 1)):
            street.do(deed)
        self.refuses(BadNumber, {"number": -1}, street.late, -1, 9)
        self.refuses(BadNumber, {"number": 4}, street.late, 4, 9)
        for at in (0, 3):
            self.refuses(BadPlace, {"place": 4}, street.late, at, 4)
        # 1 would be shut twice, 0 as well, or 0 would be opened without being shut.
        for at in (0, 1, 2, 3):
            self.refuses(BadDeed, {}, street.late, at, 1)
        for at in (0, 1, 2):
            self.refuses(BadDeed if at < 2 else Full, {}, street.late, at, 0)
        for at in (0, 1, 2, 3):
            self.refuses(Full, {}, street.late, at, 2)
        self.assertEqual(len(street.deeds), 3)
        street.limit = 2
        self.assertIsNone(street.late(2, 0))
        self.assertEqual(street.deeds, [("shut", 0), ("reopen", 0), ("shut", 0), ("shut", 1)])

    def test_late_in_a_torn_street(self):
        street = Street(TORN)
        street.shut(1)
        self.assertEqual(street.stands_now, [0, 0, 2, 3])
        street.late(0, 0)
        self.assertEqual((street.deeds, street.stands_now), ([("shut", 0), ("shut", 1)], [3, 3, 2, 3]))
        street.undo()
        street.late(1, 0)
        self.assertEqual((street.deeds, street.stands_now), ([("shut", 1), ("shut", 0)], [2, 2, 2, 3]))

    def test_limit(self):
        street = Street(FREE)
        street.shut(0)
        street.shut(1)
        for number in (-1, 0, 1, 5, 16):
            def assign():
                street.limit = number
            self.refuses(BadNumber, {"number": number}, assign)
            self.refuses(BadNumber, {"number": number}, street.do, ("limit", number))
            self.assertEqual(street.limit, 4)
        for number in (2, 3, 4, 2):
            street.limit = number
            self.assertEqual(street.limit, number)
        self.refuses(Full, {}, street.shut, 2)
        empty = Street([[]])
        empty.limit = 0
        self.refuses(Full, {}, empty.shut, 0)
        self.refuses(Full, {}, empty.late, 0, 0)


class UndoTest(Case):
    def test_undo_each_kind(self):
        street = Street(FREE)
        self.refuses(BadDeed, {}, street.undo)
        deeds = [("shut", 0), ("shut", 1), ("late", 0, 2), ("reopen", 0), ("late", 1, 3), ("late", 5, 0)]
        seen = [told_of(street)]
        for deed in deeds:
            street.do(deed)
            seen.append(told_of(street))
        self.assertEqual(street.deeds, [
            ("shut", 2), ("shut", 3), ("shut", 0), ("shut", 1), ("reopen", 0), ("shut", 0)])
        for told in reversed(seen):
            self.assertEqual(told_of(street), told)
            if told["deeds"]:
                street.undo()
        self.refuses(BadDeed, {}, street.undo)
        street.shut(3)
        street.undo()
        self.refuses(BadDeed, {}, street.undo)

    def test_limits_stay(self):
        street = Street(FREE)
        street.shut(0)
        street.limit = 1
        street.undo()
        self.assertEqual((street.limit, street.deeds), (1, []))
        self.refuses(BadDeed, {}, street.undo)

    def test_more_shut_than_the_limit(self):
        street = Street(FREE)
        for deed in (("shut", 0), ("reopen", 0), ("limit", 0), ("undo",)):
            street.do(deed)
        self.assertEqual((street.shut_places, street.limit), ([0], 0))
        self.refuses(Full, {}, street.shut, 1)
        self.refuses(BadDeed, {}, street.shut, 0)
        self.refuses(Full, {}, street.late, 0, 1)
        self.refuses(BadNumber, {"number": 0}, street.do, ("limit", 0))
        street.reopen(0)
        self.assertEqual(street.shut_places, [])
        # A late deed is held against the whole row, whose first deed is beyond the limit.
        self.refuses(Full, {}, street.late, 2, 1)
        self.refuses(Full, {}, street.shut, 1)
        street.limit = 1
        street.late(2, 1)
        self.assertEqual(street.shut_places, [1])

    def test_refused_deeds_are_not_taken_back(self):
        street = Street(TORN)
        street.shut(2)
        for deed in (("shut", 2), ("reopen", 2), ("late", 5, 1), ("late", 0, 2), ("limit", 0)):
            with self.assertRaises(TiedError):
                street.do(deed)
        street.undo()
        self.assertEqual(street.deeds, [])
        self.refuses(BadDeed, {}, street.undo)


class CopiesTest(Case):
    def test_lists_are_copied(self):
        book = [list(card) for card in FREE]
        street = Street(book)
        spoil(book)
        street.shut(0)
        wanted = told_of(street)
        spoil(told_of(street)["deeds"])
        for read in (
            lambda: street.deeds, lambda: street.shut_places, lambda: street.stands_now,
            lambda: street.who(1),
        ):
            spoil(read())
        self.assertEqual(told_of(street), wanted)
        self.assertEqual(street.stands_now, [1, 1, 2, 3])
        street.shut(1)
        self.assertEqual(street.stands_now, [2, 2, 2, 3])

    def test_sixteen_places(self):
        book = cards_of(deep_nest(16))
        street = Street(book)
        for place in range(16):
            street.shut(place)
        self.assertEqual(street.stands_now, [-1] * 16)
        street.reopen(7)
        self.assertEqual(street.stands_now, [7] * 16)
        self.assertEqual(street.who(7), list(range(16)))
