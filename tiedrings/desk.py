"""A desk, which runs lines of text on a street of named places."""

from tiedrings.arrows import possible_ends
from tiedrings.cards import HOME
from tiedrings.errors import BadDeed, TiedError
from tiedrings.faults import first_fault
from tiedrings.gathering import hopeful
from tiedrings.meeting import meet
from tiedrings.nesttext import format_nest
from tiedrings.piles import pile
from tiedrings.street import Street
from tiedrings.tying import tie
from tiedrings.words import name_of, read_line

DEEDS = ("shut", "reopen", "late", "undo", "limit")


def number_of(names, word):
    """Return the place with the name, or HOME."""
    if word == "home":
        return HOME
    if word not in names:
        raise BadDeed()
    return names.index(word)


def numbered(names, part):
    """Return the part of a line with places instead of names; a number stays."""
    if isinstance(part, int):
        return part
    if isinstance(part, list):
        return [number_of(names, word) for word in part]
    return number_of(names, part)


def list_names(names, ends):
    """Return the names of the ends in one string."""
    return " ".join([name_of(names, end) for end in ends]) if ends else "nobody"


def judge_word(book, names):
    """Return the verdict on the book with the nest, or with the least fault."""
    fault = first_fault(book)
    if fault is None:
        return "free " + format_nest(tie(book))
    entry, place = fault
    return f"torn {names[place]} {entry}"


def meet_word(book, names, places):
    """Return where the folk of the places meet, and after how many shuttings."""
    nest = tie(book)
    met = meet(nest, *places)
    if met is None:
        return "nobody"
    goal, shut = met
    return f"{names[goal]} {len(shut)}"


class Desk:
    """Holds the names of the places and the street on which the lines are run."""

    def __init__(self):
        self._names = []
        self._book = []
        self._street = None

    @property
    def names(self):
        """The names of the places."""
        return list(self._names)

    @property
    def street(self):
        """The live street itself, or None without places."""
        return self._street

    def run_line(self, line):
        """Do the line and return the answer, or None."""
        parts = read_line(line)
        if parts is None:
            return "unknown"
        if parts == ():
            return None
        try:
            return self._run_parts(parts)
        except TiedError:
            return "refused"

    def _run_parts(self, parts):
        """Do what a line tells and return the answer, or None."""
        head, *rest = parts
        if head == "places":
            self._name_places(rest[0])
            return None
        if self._street is None:
            raise BadDeed()
        told = [numbered(self._names, part) for part in rest]
        if head == "card":
            self._change_card(told[0], told[1])
            return None
        if head in DEEDS:
            self._street.do(tuple([head] + told))
            return None
        return self._answer([head] + told)

    def _name_places(self, names):
        """Name the places, which have empty cards then."""
        if self._street is not None:
            raise BadDeed()
        self._names = list(names)
        self._book = [[] for _ in names]
        self._street = Street(self._book)

    def _change_card(self, place, card):
        """Start the street anew with another card."""
        if self._street.deeds:
            raise BadDeed()
        book = [list(old) for old in self._book]
        book[place] = card
        self._street = Street(book)
        self._book = book

    def _answer(self, told):
        """Return the answer to a line that asks."""
        names = self._names
        match told:
            case ["where", place]:
                return name_of(names, self._street.where(place))
            case ["who", goal]:
                return list_names(names, self._street.who(goal))
            case ["judge"]:
                return judge_word(self._book, names)
            case ["ends", place, kept]:
                return list_names(names, possible_ends(self._book, kept, place))
            case ["gather", goal, kept]:
                return list_names(names, hopeful(self._book, kept, goals=[goal]))
            case ["meet", places]:
                return meet_word(self._book, names, places)
            case ["pile", place, number]:
                return str(pile(tie(self._book), place, number)[0])


def run_text(text):
    """Return the answers to the lines of the text, each behind the number of its line."""
    desk = Desk()
    results = []
    for number, line in enumerate(text.split("\n")):
        answer = desk.run_line(line)
        if answer is not None:
            results.append(f"{number:>3}: {answer}")
    return results
