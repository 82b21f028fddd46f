import itertools
import random
import re

from tests.helpers import Case, all_nests, deep_nest, round_nest, some_nests
from tiedrings.errors import BadNest, BadText
from tiedrings.nests import Nest
from tiedrings.nesttext import format_nest, parse_nest
from tiedrings.treeview import members_of

NUMBER = r"(?:0|[1-9][0-9]{0,8})"
MEMBER = rf"(?:N|{NUMBER})>{NUMBER}"
TOP = rf"(?:N|{NUMBER})>(?:{NUMBER}|-)"


def is_built(text):
    """Whether the text is built as point 16 says: rings are struck from the inside out."""
    opened = 0
    for sign in text:
        opened += (sign == "(") - (sign == ")")
        if opened > 16:
            return False
    if "N" in text:
        return False
    shorter = None
    while shorter != text:
        shorter, text = text, re.sub(rf"\({MEMBER}(?: {MEMBER})*\)", "N", text)
    return re.fullmatch(rf"{TOP}(?: {TOP})*", text) is not None


def turned_text(nest, node, rng):
    """The text of a node whose rings begin at any member."""
    if len(node) == 1:
        return str(node[0])
    members = members_of(nest, node)
    at = rng.randrange(len(members))
    return "(" + " ".join(
        f"{turned_text(nest, member, rng)}>{nest.gate_of(member)}"
        for member in members[at:] + members[:at]
    ) + ")"


def any_text(nest, rng):
    """A text of the nest with tops in any order."""
    tops = nest.tops()
    rng.shuffle(tops)
    ends = [nest.gate_of(top) for top in tops]
    return " ".join(
        f"{turned_text(nest, top, rng)}>{'-' if end == -1 else end}" for top, end in zip(tops, ends))


def node_texts(nest, node):
    """All texts of a node, without its gate."""
    if len(node) == 1:
        return [str(node[0])]
    texts = [
        [f"{text}>{nest.gate_of(member)}" for text in node_texts(nest, member)]
        for member in members_of(nest, node)
    ]
    return [
        "(" + " ".join(row) + ")"
        for at in range(len(texts))
        for row in itertools.product(*texts[at:], *texts[:at])
    ]


def every_text(nest):
    """All texts that tell the nest."""
    texts = [
        [f"{text}>{nest.gate_of(top)}".replace("-1", "-") for text in node_texts(nest, top)]
        for top in nest.tops()
    ]
    for order in itertools.permutations(texts):
        for row in itertools.product(*order):
            yield " ".join(row)


def bent_text(text, rng):
    """The text with one or two signs struck, put in or replaced."""
    for _ in range(rng.choice([1, 1, 2])):
        at = rng.randrange(len(text) + 1)
        end = at + rng.choice([0, 1, 1])
        text = text[:at] + rng.choice(["", *"0123>-() x"]) + text[end:]
    return text


class FormatTest(Case):
    def test_examples(self):
        nest = Nest(3, [((0,), 1), ((1,), 0), ((2,), -1), ((0, 1), 2)])
        self.assertEqual(format_nest(nest), "(0>1 1>0)>2 2>-")
        self.assertEqual(format_nest(parse_nest("((1>0 0>1)>2 2>1)>-")), "((0>1 1>0)>2 2>1)>-")

    def test_edges(self):
        self.assertEqual(format_nest(Nest.loose(1)), "0>-")
        self.assertEqual(format_nest(Nest.loose(16)), " ".join(f"{x}>-" for x in range(16)))
        self.assertEqual(
            format_nest(round_nest(16)),
            "(" + " ".join(f"{x}>{(x + 1) % 16}" for x in range(16)) + ")>-")
        text = "0"
        for place in range(1, 16):
            text = f"({text}>{place} {place}>0)"
        self.assertEqual(format_nest(deep_nest(16)), text + ">-")

    def test_normal_text(self):
        self.assertEqual(
            format_nest(parse_nest("5>2 ((4>1 1>4)>3 3>2 (2>0 0>2)>4)>-")),
            "((0>2 2>0)>4 (1>4 4>1)>3 3>2)>- 5>2")


class ParseTest(Case):
    def test_there_and_back(self):
        rng = random.Random(1)
        texts = set()
        for nest in list(all_nests(4)) + some_nests(16, 40, 2) + [deep_nest(16), round_nest(16)]:
            text = format_nest(nest)
            texts.add(text)
            again = parse_nest(text)
            self.assertIsInstance(again, Nest)
            self.assertEqual(again.size, nest.size)
            self.assertEqual(again.nodes, nest.nodes)
            for _ in range(3):
                other = parse_nest(any_text(nest, rng))
                self.assertEqual(other.nodes, nest.nodes)
                self.assertEqual(format_nest(other), text)
        self.assertEqual(len(texts), 588 + 42)

    def test_texts_that_are_not_built_as_asked(self):
        for text in (
            "", " ", "0", "0>", ">-", "0>- ", " 0>-", "0>-  1>-", "0>-,1>-", "0 >-", "0> -",
            "0>-\n", "\n0>-", "0>-\n1>-", "0>-\t1>-", "0>--", "0>->-", "->-", "0>a", "a>-", "0>+1",
            "00>-", "01>-", "0>01 1>-", "0>00", "0>1234567890", "1234567890>-", "0>" + "9" * 900,
            "9" * 900 + ">-", "0>0000000001", "()>-", "()", "(0>1 1>0)", "(0>1 1>0)>", "(0>1 1>0>-",
            "0>1 1>0)>-", "(0>1 1>-)>-", "(0>-)>-", "(0 1)>-", "(0>1 1>0 )>-", "( 0>1 1>0)>-",
            "(0>1  1>0)>-", "(0>1,1>0)>-", "(0>1 1>0)>- ", "((0>1 1>0))>-", "[0>1 1>0]>-", "0>-1",
            "0>1.0", "(0>1 1>0) >-", "(0>1 1>0)> -", "0:-", "0>-0>-", "(0>1)(1>0)>-", "-", ">", "(",
            ")", "0>HOME", "0>\u0661", "(0>1 ()>0)>-", "0>-)", "0>-(", "0<-", "0>-\x00",
        ):
            with self.subTest(text):
                self.refuses(BadText, {}, parse_nest, text)

    def test_brackets_open_at_once(self):
        text = "0"
        for depth in range(1, 19):
            text = f"({text}>1)"
            error = BadText if depth > 16 else BadNest
            self.refuses(error, {}, parse_nest, text + ">-")
            self.refuses(error, {}, parse_nest, f"1>- {text}>- {text}>-")
        self.refuses(BadText, {}, parse_nest, "(" * 17)
        self.refuses(BadText, {}, parse_nest, "(" * 900)
        text = "0"
        for depth in range(1, 18):
            text = f"((0>1)>1 (0>1)>1 {text}>1)"
            self.refuses(BadText if depth > 15 else BadNest, {}, parse_nest, text + ">-")
        # As many brackets one behind the other are no fault of the building.
        self.refuses(BadNest, {}, parse_nest, " ".join(["(0>1)>-"] * 40))

    def test_texts_that_are_no_nests(self):
        for text in (
            "0>0", "0>1", "1>-", "0>- 0>-", "0>- 2>-", "0>1 1>0", "0>1 1>2 2>0", "0>999999999",
            "999999999>-", "(0>1)>-", "(0>0)>-", "(0>1)>1 1>-", "(0>1 1>0)>0", "(0>1 1>0)>1",
            "(0>1 1>0)>2", "(0>1 1>1)>-", "(0>0 1>1)>-", "(0>1 2>0)>1 1>-", "(0>1 1>0)>2 2>0",
            "(0>2 1>0)>2 2>-", "(0>1 1>2 2>1)>-", "(0>1 0>1)>-", "(0>1 1>0)>- 1>-",
            "(0>2 1>0 2>1)>-", "(0>1 2>0 1>2)>-", "((0>1 1>0)>2 2>2)>-", "((0>1 1>0)>2 2>3)>- 3>-",
            "((0>1 1>0)>2)>2 2>-", "((0>1 1>0)>1 2>0)>-", "(0>1 1>2 2>3 3>0)>4 4>2",
            " ".join(f"{x}>-" for x in range(17)), " ".join(["0>-"] * 100),
        ):
            with self.subTest(text):
                self.assertTrue(is_built(text))
                self.refuses(BadNest, {}, parse_nest, text)

    def test_bad_text_comes_before_bad_nest(self):
        self.refuses(BadText, {}, parse_nest, "0>0 0>0 ")
        self.refuses(BadText, {}, parse_nest, "(0>1)>- 1>x")
        self.refuses(BadText, {}, parse_nest, " ".join(f"{x}>-" for x in range(17)) + " 01>-")

    def test_bent_texts(self):
        rng = random.Random(3)
        known = {text for size in (1, 2, 3, 4) for nest in all_nests(size)
                 for text in every_text(nest)}
        accepted = 0
        for nest in some_nests(3, 60, 4) + some_nests(4, 60, 5):
            for _ in range(100):
                text = bent_text(any_text(nest, rng), rng)
                if text in known:
                    self.assertIsInstance(parse_nest(text), Nest)
                    accepted += 1
                else:
                    self.refuses(BadNest if is_built(text) else BadText, {}, parse_nest, text)
        self.assertGreater(accepted, 100)

    def test_bent_long_texts(self):
        rng = random.Random(7)
        for nest in some_nests(12, 10, 6):
            for _ in range(100):
                text = bent_text(any_text(nest, rng), rng)
                if not is_built(text):
                    self.refuses(BadText, {}, parse_nest, text)
