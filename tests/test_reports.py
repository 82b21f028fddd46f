import random

from tests.helpers import Case, plain_stands, some_books, some_nests, spoil
from tiedrings.nestcards import cards_of
from tiedrings.reports import report
from tiedrings.street import Street

FREE = [[1, 2], [0, 2], [1, 0], []]


class ReportsTest(Case):
    def test_by_hand(self):
        street = Street(FREE)
        names = ["ada", "b", "abcdefgh", "dee99"]
        self.assertEqual(report(street, names), [
            "ada      open ada       1", "b        open b         1", "abcdefgh open abcdefgh  1",
            "dee99    open dee99     1"])
        for place in (0, 1, 3):
            street.shut(place)
        self.assertEqual(report(street, names), [
            "ada      shut abcdefgh  0", "b        shut abcdefgh  0", "abcdefgh open abcdefgh  3",
            "dee99    shut home      0"])
        street.reopen(1)
        self.assertEqual(report(street, names)[:2], [
            "ada      shut b         0", "b        open b         2"])
        self.assertEqual(report(Street([[]]), ["x"]), ["x        open x         1"])

    def test_names_are_not_checked(self):
        self.assertEqual(report(Street([[], []]), ["Home", "Home"]), ["Home     open Home      1"] * 2)

    def test_more_than_nine_folk(self):
        ring = [[(place + step) % 16 for step in range(1, 16)] for place in range(16)]
        street = Street(ring)
        for place in range(15):
            street.shut(place)
        lines = report(street, [f"p{place}" for place in range(16)])
        self.assertEqual(lines[0], "p0       shut p15       0")
        self.assertEqual(lines[15], "p15      open p15      16")
        self.assertEqual(len(lines), 16)

    def test_many_streets(self):
        rng = random.Random(1)
        books = [cards_of(nest) for nest in some_nests(6, 10, 2)] + some_books(6, 10, 3)
        names = ["a", "bb", "ccc", "dddd", "eeeee", "ffffff"]
        for book in books:
            street = Street(book)
            order = rng.sample(range(6), rng.randrange(7))
            for place in order:
                street.shut(place)
            stands = plain_stands(book, order)
            for place, line in enumerate(report(street, names)):
                stand = "home" if stands[place] == -1 else names[stands[place]]
                state = "shut" if place in order else "open"
                self.assertEqual(line, (
                    names[place].ljust(8) + " " + state + " " + stand.ljust(8) + " "
                    + str(stands.count(place)).rjust(2)))

    def test_nothing_changes(self):
        street, names = Street(FREE), ["a", "b", "c", "d"]
        street.shut(2)
        wanted = report(street, names)
        spoil(report(street, names))
        self.assertEqual((report(street, names), names), (wanted, ["a", "b", "c", "d"]))
        self.assertEqual(street.deeds, [("shut", 2)])
