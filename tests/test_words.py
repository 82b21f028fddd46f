import itertools
import random

from tests.helpers import Case, spoil
from tiedrings.words import read_line, write_line

LINES = {
    "": (),
    "places ada": ("places", ["ada"]),
    "places ada bo": ("places", ["ada", "bo"]),
    "places shut undo places card": ("places", ["shut", "undo", "places", "card"]),
    "card ada : bo": ("card", "ada", ["bo"]),
    "card ada :": ("card", "ada", []),
    "card ada : bo ada bo": ("card", "ada", ["bo", "ada", "bo"]),
    "card card : card": ("card", "card", ["card"]),
    "shut ada": ("shut", "ada"),
    "reopen b2": ("reopen", "b2"),
    "late 0 ada": ("late", 0, "ada"),
    "late 999999999 a": ("late", 999999999, "a"),
    "undo": ("undo",),
    "limit 0": ("limit", 0),
    "limit 16": ("limit", 16),
    "where abcdefgh": ("where", "abcdefgh"),
    "who ada": ("who", "ada"),
    "who home": ("who", "home"),
    "judge": ("judge",),
    "ends ada keep": ("ends", "ada", []),
    "ends ada keep bo cy": ("ends", "ada", ["bo", "cy"]),
    "ends ada keep ada ada": ("ends", "ada", ["ada", "ada"]),
    "gather home keep": ("gather", "home", []),
    "gather ada keep bo": ("gather", "ada", ["bo"]),
    "meet ada": ("meet", ["ada"]),
    "meet ada bo ada": ("meet", ["ada", "bo", "ada"]),
    "pile ada 0": ("pile", "ada", 0),
    "pile z0123456 100": ("pile", "z0123456", 100),
}
BAD_NAMES = [
    "home", "keep", "nobody", "free", "torn", "abcdefghi", "1a", "0", "9abc", "Ada", "aDa", "a_b", "a-b",
    "a.b", "-", ":", "a:", ":a", "a\t", "a\nb", "ada,", "(", "a\r",
]
BAD_NUMBERS = [
    "00", "01", "007", "1234567890", "0000000000", "-1", "+1", "1.0", "a", "1a", "1_0", ":", "home",
    "9" * 5000,
]
ONE_NAME = ["shut X", "reopen X", "late 0 X", "where X", "pile X 1", "card X : bo", "card bo : X",
            "card bo : cy X dee", "ends X keep bo", "ends bo keep X", "ends bo keep cy X",
            "gather bo keep X", "meet X", "meet bo X", "places X", "places bo X"]


class ReadingTest(Case):
    def test_forms(self):
        for line, parts in LINES.items():
            told = read_line(line)
            self.assertEqual(told, parts)
            self.assertIs(type(told), tuple)
            self.assertEqual([type(part) for part in told], [type(part) for part in parts])
            self.assertEqual(write_line(parts), line)

    def test_names(self):
        for line in ONE_NAME:
            for name in ["a", "z", "a0", "abcdefgh", "z9876543", "keeper", "homes", "undo", "x1y2"]:
                self.assertIsNotNone(read_line(line.replace("X", name)), line)
            for name in BAD_NAMES:
                self.assertIsNone(read_line(line.replace("X", name)), (line, name))
        for word in [name for name in BAD_NAMES if name != "home"]:
            self.assertIsNone(read_line("who " + word))
            self.assertIsNone(read_line(f"gather {word} keep bo"))

    def test_numbers(self):
        for line in ("late X ada", "limit X", "pile ada X"):
            for number in (0, 1, 10, 999999999, 123456789):
                self.assertIn(number, read_line(line.replace("X", str(number))))
            for word in BAD_NUMBERS:
                self.assertIsNone(read_line(line.replace("X", word)), (line, word))

    def test_a_word_too_few_or_too_many(self):
        for line in (
            "places", "card", "card ada", "card :", "card : bo", "card ada bo", "card ada bo :",
            "card ada : :", "card ada: bo", "card ada :bo", "shut", "shut ada bo", "reopen",
            "reopen ada bo", "late", "late 0", "late ada", "late ada 0", "late 0 ada bo", "undo ada",
            "undo 1", "limit", "limit 1 2", "where", "where ada bo", "where home", "who",
            "who ada bo", "judge ada", "ends", "ends ada", "ends keep bo", "ends ada bo",
            "ends ada bo keep", "ends ada keep keep", "ends home keep", "gather", "gather keep",
            "gather ada", "gather home bo", "gather ada bo keep", "gather ada keep home", "meet",
            "meet home", "pile", "pile ada", "pile 1 ada", "pile ada 1 2", "pile ada bo", "pile 1",
            "shut home", "late 0 home", "ada", "home", "keep", ":", "0", "Shut ada", "SHUT ada",
            "shut,ada", "undone", "jud ge",
        ):
            self.assertIsNone(read_line(line), line)

    def test_spaces_and_other_signs(self):
        for line in LINES:
            for bad in (" " + line, line + " ", line + "\t", "\t" + line, line + "\n", "\n" + line):
                self.assertIsNone(read_line(bad), bad)
            if " " in line:
                self.assertIsNone(read_line(line.replace(" ", "  ")), line)
                self.assertIsNone(read_line(line.replace(" ", "\t")), line)
                self.assertIsNone(read_line(line.replace(" ", "\n", 1)), line)
            if line:
                self.assertIsNone(read_line(line.upper()), line)
                self.assertIsNone(read_line(line[0].upper() + line[1:]), line)
        for line in (" ", "  ", "\t", "\n", "\r"):
            self.assertIsNone(read_line(line))

    def test_names_of_places(self):
        names = [f"p{number}" for number in range(17)]
        self.assertEqual(read_line("places " + " ".join(names[:16])), ("places", names[:16]))
        self.assertIsNone(read_line("places " + " ".join(names)))
        self.assertIsNone(read_line("places ada bo ada"))
        self.assertIsNone(read_line("places ada ada"))
        # Only here a repeated name, or too many names, are a matter of form.
        self.assertEqual(read_line("meet " + " ".join(names)), ("meet", names))
        self.assertEqual(read_line("card ada : " + " ".join(names + names))[2], names + names)

    def test_all_short_lines(self):
        words = ["ada", "0", ":", "keep", "home", "judge", "late", "ends"]
        told = 0
        for many in range(5):
            for line in itertools.product(words, repeat=many):
                parts = read_line(" ".join(line))
                if parts is not None:
                    told += 1
                    self.assertEqual(write_line(parts), " ".join(line))
        # The empty line, `judge`, four names for `late 0 NAME`, and the lines of `ends`.
        self.assertEqual(told, 2 + 4 + (4 + 4 * 4))

    def test_writing_what_is_read(self):
        rng = random.Random(1)
        words = ["ada", "bo", "cy", "0", "12", ":", "keep", "home"]
        heads = sorted({line.split(" ")[0] for line in LINES})
        for _ in range(20000):
            line = " ".join([rng.choice(heads)] + rng.choices(words, k=rng.randrange(6)))
            parts = read_line(line)
            if parts is not None:
                self.assertEqual(write_line(parts), line)
                self.assertEqual(read_line(write_line(parts)), parts)

    def test_lists_are_new(self):
        spoil(read_line("card ada : bo"))
        self.assertEqual(read_line("card ada : bo"), ("card", "ada", ["bo"]))
        parts = ("places", ["ada", "bo"])
        write_line(parts)
        self.assertEqual(parts, ("places", ["ada", "bo"]))
