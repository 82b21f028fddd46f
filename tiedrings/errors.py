"""The errors of the program. Each one is a TiedError, which is a ValueError."""


class TiedError(ValueError):
    """The base class of all errors."""


class BadBook(TiedError):
    """A list is no book; `place` is the first place with a wrong card, or -1."""

    def __init__(self, place):
        super().__init__(f"not a book, place {place}")
        self.place = place


class BadPlace(TiedError):
    """`place` is no place of the street, or stands twice in a list."""

    def __init__(self, place):
        super().__init__(f"not a place, or named twice: {place}")
        self.place = place


class BadSize(TiedError):
    """`size` is not a number of places that is allowed here."""

    def __init__(self, size):
        super().__init__(f"not a size: {size}")
        self.size = size


class BadNumber(TiedError):
    """`number` is beyond the numbers that are allowed here."""

    def __init__(self, number):
        super().__init__(f"not a number for this: {number}")
        self.number = number


class BadRule(TiedError):
    """A list is no rule; `row` is the number of the first wrong row, or -1."""

    def __init__(self, row):
        super().__init__(f"not a rule, row {row}")
        self.row = row


class BadNest(TiedError):
    """Something is no nest, or no node of one."""

    def __init__(self):
        super().__init__("not a nest, or not a node of it")


class NotTied(TiedError):
    """A book is read from no nest; its least fault is (entry, place)."""

    def __init__(self, entry, place):
        super().__init__(f"a fault at entry {entry} of place {place}")
        self.entry = entry
        self.place = place


class BadText(TiedError):
    """A text is not built as the text of a nest."""

    def __init__(self):
        super().__init__("not the text of a nest")


class BadLine(TiedError):
    """Line `line` of a text, counted from 0, is no card."""

    def __init__(self, line):
        super().__init__(f"not a card, line {line}")
        self.line = line


class BadRooms(TiedError):
    """Rooms are wrong at `place`, or, with -1, in their number."""

    def __init__(self, place):
        super().__init__(f"not rooms, place {place}")
        self.place = place


class BadWishes(TiedError):
    """Counted wishes are wrong at `place`, or, with -1, in their number."""

    def __init__(self, place):
        super().__init__(f"not counted wishes, place {place}")
        self.place = place


class BadFolk(TiedError):
    """Folk numbers are wrong at `place`, or, with -1, in their number."""

    def __init__(self, place):
        super().__init__(f"not folk numbers, place {place}")
        self.place = place


class BadStep(TiedError):
    """A step is not possible in this nest."""

    def __init__(self):
        super().__init__("not a possible step")


class BadChoice(TiedError):
    """The choices of the node `places` are not valid."""

    def __init__(self, places):
        super().__init__(f"not valid choices: {places}")
        self.places = places


class NoWorld(TiedError):
    """No world fits what was seen."""

    def __init__(self):
        super().__init__("no world fits")


class BadDeed(TiedError):
    """A deed is not possible now."""

    def __init__(self):
        super().__init__("not a possible deed")


class Full(BadDeed):
    """A deed would shut more places than the limit allows."""


class NotFree(BadDeed):
    """A deed needs a free book."""
