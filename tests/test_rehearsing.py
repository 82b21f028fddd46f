import random

from tests.helpers import Case, plain_stands, some_nests, spoil
from tests.test_street import FREE, TORN, some_deed, told_of
from tiedrings.errors import BadDeed, BadNumber, BadPlace, Full, NotFree, TiedError
from tiedrings.nestcards import cards_of
from tiedrings.rehearsing import change_limit, rehearse
from tiedrings.street import Street


def told_with_undo(street):
    """Everything that can be read off the street, now and after taking back each deed."""
    told = [told_of(street)]
    while True:
        try:
            street.undo()
        except BadDeed:
            return told
        told.append(told_of(street))


def street_after(book, deeds):
    street = Street(book)
    for deed in deeds:
        street.do(deed)
    return street


class RehearsingTest(Case):
    def test_by_hand(self):
        street = street_after(FREE, [("shut", 0)])
        self.assertEqual(rehearse(street, []), [1, 1, 2, 3])
        self.assertEqual(rehearse(street, [("shut", 1)]), [2, 2, 2, 3])
        self.assertEqual(rehearse(street, [("shut", 1), ("undo",), ("undo",)]), [0, 1, 2, 3])
        self.assertEqual(rehearse(street, [("undo",), ("limit", 0)]), [0, 1, 2, 3])
        self.assertEqual(rehearse(street, [("late", 0, 2), ("reopen", 0)]), [0, 1, 1, 3])
        self.assertEqual(told_of(street), told_of(street_after(FREE, [("shut", 0)])))
        self.assertEqual(rehearse(Street([[]]), [("shut", 0)]), [-1])

    def test_errors_are_passed_on(self):
        done = [("shut", 0), ("shut", 2), ("limit", 3)]
        for deeds, error, fields in (
            ([("shut", 1), ("shut", 1), ("shut", 9)], BadDeed, {}),
            ([("undo",), ("undo",), ("undo",)], BadDeed, {}), ([("walk", 0)], BadDeed, {}),
            ([("shut", 1), ("shut", 3)], Full, {}), ([("limit", 2), ("shut", 1)], Full, {}),
            ([("reopen", 0), ("shut", 4)], BadPlace, {"place": 4}),
            ([("late", 0, 1), ("late", 4, 3)], BadNumber, {"number": 4}),
            ([("reopen", 2), ("limit", 0)], BadNumber, {"number": 0}),
        ):
            street = street_after(FREE, done)
            self.refuses(error, fields, rehearse, street, deeds)
            self.assertEqual(told_with_undo(street), told_with_undo(street_after(FREE, done)))
        street = street_after(TORN, [("shut", 1)])
        self.refuses(NotFree, {}, rehearse, street, [("shut", 0), ("reopen", 0)])
        self.assertEqual(street.stands_now, [0, 0, 2, 3])

    def test_takes_back_more_than_it_did(self):
        done = [("shut", 0), ("shut", 1), ("late", 1, 3), ("reopen", 0), ("limit", 2)]
        street = street_after(FREE, done)
        deeds = [("undo",), ("undo",), ("limit", 4), ("shut", 2), ("late", 0, 3), ("undo",)]
        self.assertEqual(rehearse(street, deeds), plain_stands(FREE, [0, 1, 2]))
        self.assertEqual(told_with_undo(street), told_with_undo(street_after(FREE, done)))

    def test_walks(self):
        rng = random.Random(1)
        for nest in some_nests(5, 30, 2):
            book = cards_of(nest)
            street, other, twin = Street(book), Street(book), Street(book)
            for deed in [some_deed(5, 4, rng) for _ in range(12)]:
                try:
                    street.do(deed)
                except TiedError:
                    continue
                other.do(deed)
                twin.do(deed)
            before = told_of(street)
            deeds = [some_deed(5, 6, rng) for _ in range(3)]
            try:
                for deed in deeds:
                    other.do(deed)
                self.assertEqual(rehearse(street, deeds), other.stands_now)
            except TiedError as error:
                self.refuses(type(error), vars(error), rehearse, street, deeds)
            self.assertEqual(told_of(street), before)
            self.assertEqual(told_with_undo(street), told_with_undo(twin))

    def test_lists_are_new(self):
        street = street_after(FREE, [("shut", 0)])
        deeds = [("shut", 1)]
        spoil(rehearse(street, deeds))
        self.assertEqual(deeds, [("shut", 1)])
        self.assertEqual(rehearse(street, deeds), [2, 2, 2, 3])
        spoil(rehearse(street, []))
        self.assertEqual(street.stands_now, [1, 1, 2, 3])

    def test_change_limit(self):
        street = street_after(FREE, [("shut", 0)])
        self.assertIsNone(change_limit(street, 1))
        self.assertEqual(street.limit, 1)
        for number in (0, 5, -1):
            self.refuses(BadNumber, {"number": number}, change_limit, street, number)
        self.assertEqual(street.limit, 1)
        self.refuses(Full, {}, street.shut, 1)
