import itertools
import random

from tests.helpers import Case, all_lists, plain_stands, some_nests, spoil
from tests.test_arrows import ends_by_orders
from tests.test_street import PlainStreet, told_of
from tiedrings.desk import Desk, run_text
from tiedrings.errors import BadDeed
from tiedrings.faults import first_fault
from tiedrings.nestcards import cards_of
from tiedrings.nesttext import format_nest, parse_nest
from tiedrings.street import Street
from tiedrings.tying import tie

NAMES = ["ada", "bo", "cy", "dee"]
TORN = [[1, 2, 3], [0, 3, 2], [3, 0, 1], [2, 0, 1]]
FREE = [[1, 2], [0, 2], [1, 0], []]


def lines_of(book, names):
    """The lines that put the book on a desk."""
    return ["places " + " ".join(names)] + [
        " ".join(["card", names[place], ":"] + [names[entry] for entry in card])
        for place, card in enumerate(book)
    ]


def desk_of(book, names=tuple(NAMES)):
    desk = Desk()
    for line in lines_of(book, names):
        assert desk.run_line(line) is None
    return desk


class PlainDesk:
    """Answers by walking through orders and lists of shut places."""

    def __init__(self, book):
        self.book = book
        self.free = first_fault(book) is None
        self.plain = PlainStreet(book, self.free)

    def listed(self, ends):
        return " ".join("home" if end == -1 else NAMES[end] for end in ends) or "nobody"

    def deed(self, deed):
        if self.plain.error_of(deed) is not None:
            return "refused"
        self.plain.do(deed)
        return None

    def where(self, place):
        return self.listed([self.plain.told()["stands_now"][place]])

    def who(self, goal):
        return self.listed(
            [x for x, stand in enumerate(self.plain.told()["stands_now"]) if stand == goal])

    def judge(self):
        if self.free:
            return "free " + format_nest(tie(self.book))
        entry, place = first_fault(self.book)
        return f"torn {NAMES[place]} {entry}"

    def ends(self, place, kept):
        if len(set(kept)) < len(kept):
            return "refused"
        return self.listed(ends_by_orders(self.book, kept)[place])

    def gather(self, goal, kept):
        if len(set(kept)) < len(kept) or goal not in kept + [-1]:
            return "refused"
        ends = ends_by_orders(self.book, kept)
        return self.listed([x for x in range(len(self.book)) if x not in kept and goal in ends[x]])

    def meet(self, places):
        if not self.free or len(set(places)) < len(places):
            return "refused"
        found = []
        for shut in all_lists(range(len(self.book))):
            ends = {plain_stands(self.book, shut)[place] for place in places}
            if len(ends) == 1 and -1 not in ends:
                found.append((len(shut), min(ends)))
        return f"{NAMES[min(found)[1]]} {min(found)[0]}" if found else "nobody"

    def pile(self, goal, number):
        if not self.free or number >= len(self.book):
            return "refused"
        others = [place for place in range(len(self.book)) if place != goal]
        return str(max(
            plain_stands(self.book, list(shut)).count(goal)
            for shut in itertools.combinations(others, number)))


def some_line(size, long, rng):
    """A line, and what a plain desk is asked for it."""
    x, y, number = rng.randrange(size), rng.randrange(-1, size), rng.randrange(long + 2)
    row = [rng.randrange(size) for _ in range(rng.randrange(4))]
    if rng.random() < 0.8:
        row = sorted(set(row), reverse=True)
    end = "home" if y == -1 else NAMES[y]
    told = " ".join(["keep"] + [NAMES[place] for place in row])
    return rng.choice([
        (f"shut {NAMES[x]}", lambda d: d.deed(("shut", x))),
        (f"reopen {NAMES[x]}", lambda d: d.deed(("reopen", x))),
        (f"late {number} {NAMES[x]}", lambda d: d.deed(("late", number, x))),
        ("undo", lambda d: d.deed(("undo",))),
        (f"limit {number}", lambda d: d.deed(("limit", number))),
        (f"where {NAMES[x]}", lambda d: d.where(x)),
        (f"who {end}", lambda d: d.who(y)),
        ("judge", lambda d: d.judge()),
        (f"ends {NAMES[x]} {told}", lambda d: d.ends(x, row)),
        (f"gather {end} {told}", lambda d: d.gather(y, row)),
        (f"meet {NAMES[x]}" + told[4:], lambda d: d.meet([x] + row)),
        (f"pile {NAMES[x]} {number}", lambda d: d.pile(x, number)),
    ])


class DeskTest(Case):
    def test_random_lines(self):
        rng = random.Random(1)
        books = [cards_of(nest) for nest in some_nests(4, 25, 2) + some_nests(2, 5, 3)]
        books += [TORN, FREE, [[]], [[1, 2, 3], [2, 0], [0], []], [[1, 2], [2, 0], [0, 1], [0]]]
        for book in books:
            desk, plain = desk_of(book, NAMES[:len(book)]), PlainDesk(book)
            for _ in range(60):
                line, asked = some_line(len(book), len(plain.plain.rows[-1]), rng)
                self.assertEqual(desk.run_line(line), asked(plain), (book, line))
                self.assertEqual(told_of(desk.street), plain.plain.told())

    def test_answers_by_hand(self):
        desk = desk_of(TORN)
        for line, answer in (
            ("judge", "torn ada 0"), ("where ada", "ada"), ("who home", "nobody"), ("who bo", "bo"),
            ("shut bo", None), ("shut ada", None), ("where bo", "cy"), ("who cy", "ada bo cy"),
            ("who ada", "nobody"), ("ends ada keep cy dee", "cy dee"), ("ends cy keep cy", "cy"),
            ("ends ada keep", "home"), ("gather cy keep dee cy", "ada bo"), ("gather home keep cy", "nobody"),
            ("gather home keep", "ada bo cy dee"), ("meet ada bo", "refused"), ("pile ada 0", "refused"),
            ("reopen ada", "refused"), ("shut cy", None), ("shut dee", None), ("where ada", "home"),
            ("who home", "ada bo cy dee"), ("undo", None), ("where ada", "dee"),
        ):
            self.assertEqual(desk.run_line(line), answer, line)
        desk = desk_of(FREE)
        for line, answer in (
            ("judge", "free ((0>1 1>0)>2 2>1)>- 3>-"), ("meet ada bo", "ada 1"), ("meet dee", "dee 0"),
            ("meet ada dee", "nobody"), ("meet cy ada", "ada 2"), ("pile cy 2", "3"), ("pile cy 1", "1"),
            ("pile cy 3", "3"), ("pile cy 4", "refused"), ("meet ada ada", "refused"),
            ("ends ada keep ada ada", "refused"), ("gather ada keep bo", "refused"),
            ("gather ada keep ada ada", "refused"), ("ends dee keep ada", "home"), ("reopen ada", "refused"),
        ):
            self.assertEqual(desk.run_line(line), answer, line)
        # `home` stands first among ends.
        desk = desk_of([[1, 2], [], []], NAMES[:3])
        self.assertEqual(desk.run_line("ends ada keep cy"), "home cy")

    def test_questions_do_not_look_at_the_deeds(self):
        desk = desk_of(FREE)
        lines = ["judge", "ends ada keep cy", "gather cy keep cy", "meet ada cy", "pile cy 2"]
        before = [desk.run_line(line) for line in lines]
        for line in ("shut cy", "shut ada", "limit 2"):
            desk.run_line(line)
        self.assertEqual([desk.run_line(line) for line in lines], before)

    def test_without_places(self):
        desk = Desk()
        self.assertEqual((desk.names, desk.street), ([], None))
        for line in (
            "card ada : bo", "shut ada", "reopen ada", "late 0 ada", "undo", "limit 0", "where ada",
            "who home", "who ada", "judge", "ends ada keep", "gather home keep", "meet ada", "pile ada 0",
        ):
            self.assertEqual(desk.run_line(line), "refused", line)
        self.assertIsNone(desk.run_line(""))
        self.assertEqual(desk.run_line("places home"), "unknown")
        self.assertEqual(desk.run_line(" "), "unknown")
        self.assertEqual((desk.names, desk.street), ([], None))

    def test_places(self):
        desk = Desk()
        self.assertIsNone(desk.run_line("places bo ada"))
        self.assertEqual(desk.names, ["bo", "ada"])
        self.assertEqual(desk.street.size, 2)
        self.assertEqual(desk.run_line("judge"), "free 0>- 1>-")
        street = desk.street
        for line in ("places bo ada", "places cy", "places ada"):
            self.assertEqual(desk.run_line(line), "refused")
        self.assertEqual(desk.run_line("places cy cy"), "unknown")
        self.assertEqual(desk.names, ["bo", "ada"])
        self.assertIs(desk.street, street)
        self.assertEqual(desk.run_line("shut bo"), None)
        self.assertEqual(street.shut_places, [0])
        names = [f"n{number}" for number in range(16)]
        self.assertIsNone(Desk().run_line("places " + " ".join(names)))
        self.assertEqual(Desk().run_line("places " + " ".join(names + ["x"])), "unknown")

    def test_unknown_names(self):
        desk = desk_of(FREE)
        told = told_of(desk.street)
        for line in (
            "card eve : ada", "card ada : bo eve", "shut eve", "reopen eve", "late 0 eve", "where eve",
            "who eve", "ends eve keep ada", "ends ada keep eve", "gather eve keep ada",
            "gather ada keep ada eve", "gather home keep eve", "meet eve", "meet ada eve", "pile eve 0",
        ):
            self.assertEqual(desk.run_line(line), "refused", line)
        self.assertEqual(told_of(desk.street), told)
        self.assertEqual(desk.run_line("judge"), "free ((0>1 1>0)>2 2>1)>- 3>-")


class CardsTest(Case):
    def test_cards(self):
        desk = desk_of(FREE)
        street = desk.street
        for line in ("card ada : ada", "card ada : bo ada", "card ada : bo cy bo"):
            self.assertEqual(desk.run_line(line), "refused")
            self.assertIs(desk.street, street)
        self.assertEqual(desk.run_line("judge"), "free ((0>1 1>0)>2 2>1)>- 3>-")
        self.assertIsNone(desk.run_line("card dee : ada bo cy"))
        self.assertIsNot(desk.street, street)
        self.assertEqual(desk.run_line("judge"), "free ((0>1 1>0)>2 2>1)>- 3>0")
        self.assertIsNone(desk.run_line("card dee :"))
        self.assertEqual(desk.run_line("judge"), "free ((0>1 1>0)>2 2>1)>- 3>-")

    def test_a_new_card_starts_anew(self):
        desk = desk_of(FREE)
        for line in ("limit 2", "shut ada"):
            self.assertIsNone(desk.run_line(line))
        street = desk.street
        self.assertEqual(desk.run_line("card dee : ada"), "refused")
        self.assertIs(desk.street, street)
        self.assertIsNone(desk.run_line("undo"))
        self.assertEqual(street.limit, 2)
        self.assertIsNone(desk.run_line("card dee : ada"))
        self.assertEqual((desk.street.limit, desk.street.deeds), (4, []))
        self.assertEqual(desk.run_line("undo"), "refused")
        # Deeds on the old street do not count any more.
        street.shut(0)
        self.assertEqual(desk.run_line("where ada"), "ada")

    def test_an_opened_street_still_has_deeds(self):
        desk = desk_of(FREE)
        for line in ("shut ada", "reopen ada"):
            self.assertIsNone(desk.run_line(line))
        self.assertEqual(desk.run_line("card dee : ada"), "refused")

    def test_deeds_on_the_street_count(self):
        desk = desk_of(FREE)
        desk.street.shut(0)
        self.assertEqual(desk.run_line("where ada"), "bo")
        self.assertEqual(desk.run_line("card dee :"), "refused")
        self.assertEqual(desk.run_line("shut ada"), "refused")
        self.assertIsNone(desk.run_line("shut bo"))
        self.assertEqual(desk.street.deeds, [("shut", 0), ("shut", 1)])
        desk.street.undo()
        self.assertIsNone(desk.run_line("undo"))
        self.assertEqual(desk.run_line("undo"), "refused")
        self.refuses(BadDeed, {}, desk.street.undo)
        desk.street.limit = 0
        self.assertEqual(desk.run_line("shut ada"), "refused")
        self.assertIsNone(desk.run_line("limit 1"))
        self.assertEqual(desk.street.limit, 1)

    def test_names_are_a_new_list(self):
        desk = desk_of(FREE)
        spoil(desk.names)
        self.assertEqual(desk.names, NAMES)
        self.assertEqual(desk.run_line("where ada"), "ada")
        self.assertIsInstance(desk.street, Street)


class TextTest(Case):
    def test_example(self):
        text = "places ada bo\ncard ada : bo\nshut ada\nwhere ada\nshut ada\njudge"
        self.assertEqual(run_text(text), ["  3: bo", "  4: refused", "  5: free 0>1 1>-"])

    def test_few_lines(self):
        self.assertEqual(run_text(""), [])
        self.assertEqual(run_text("\n\n"), [])
        self.assertEqual(run_text("judge"), ["  0: refused"])
        self.assertEqual(run_text("\njudge \n"), ["  1: unknown"])
        self.assertEqual(run_text("places a\n\nundo\r\nundo\n"), ["  2: unknown", "  3: refused"])

    def test_each_text_has_a_new_desk(self):
        self.assertEqual(run_text("places ada\njudge"), ["  1: free 0>-"])
        self.assertEqual(run_text("judge"), ["  0: refused"])

    def test_many_lines(self):
        for number in (140, 1100, 12000):
            lines = ["places ada bo", "card ada : bo"] + ["where ada", "shut ada", "reopen ada"] * number
            lines = lines[:number]
            results = run_text("\n".join(lines))
            wanted = [
                f"{at}: ada".rjust(len("ada") + 5) for at in range(2, number) if at % 3 == 2
            ]
            self.assertEqual(results, wanted)
        self.assertEqual(results[-1], "11999: ada" if 11999 % 3 == 2 else "11998: ada")

    def test_numbers_of_lines(self):
        results = run_text("\n".join(["x"] * 1002))
        self.assertEqual(
            [results[at] for at in (0, 9, 10, 99, 100, 999, 1000, 1001)],
            ["  0: unknown", "  9: unknown", " 10: unknown", " 99: unknown", "100: unknown",
             "999: unknown", "1000: unknown", "1001: unknown"])

    def test_forms_that_are_not_understood(self):
        for line in (
            "places ada ada", "Places ada", " places ada", "places ada ", "places  ada", "places\tada",
            "places abcdefghi", "places 1a", "places home", "limit 00", "limit 1234567890", "jugde",
        ):
            self.assertEqual(run_text("places zoe\n" + line), ["  1: unknown"])

    def test_all_on_sixteen_places(self):
        nest = parse_nest("0>- " + " ".join(f"{place}>{place - 1}" for place in range(1, 16)))
        names = [f"place{chr(97 + place)}" for place in range(16)]
        desk = desk_of(cards_of(nest), names)
        self.assertEqual(desk.run_line("judge"), "free " + format_nest(nest))
        self.assertEqual(desk.run_line("meet " + " ".join(names)), "placea 15")
        self.assertEqual(desk.run_line("pile placea 15"), "16")
        self.assertEqual(desk.run_line("gather placea keep placea"), " ".join(names[1:]))
        for name in names:
            self.assertIsNone(desk.run_line("shut " + name))
        self.assertEqual(desk.run_line("who home"), " ".join(names))
