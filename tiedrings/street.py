"""A live street: places are shut and opened again, with undo and late news."""

from tiedrings.cards import check_book, check_end, check_place
from tiedrings.errors import BadDeed, BadNumber, Full, NotFree
from tiedrings.faults import first_fault
from tiedrings.shutting import stands_after, standing_at


def shut_after(shut, deed):
    """Return the places that are shut after the deed; refuse one that is not possible then."""
    word, place = deed
    if (word == "shut") == (place in shut):
        raise BadDeed()
    if word == "shut":
        return shut + [place]
    return [other for other in shut if other != place]


def shut_at_times(row):
    """Return the places that are shut at first and after each deed of the row."""
    times = [[]]
    for deed in row:
        times.append(shut_after(times[-1], deed))
    return times


class Street:
    """A street that runs a book. Its row of deeds tells what has been done."""

    def __init__(self, book):
        check_book(book)
        self.size = len(book)
        self._book = [list(card) for card in book]
        self._free = first_fault(book) is None
        self._limit = len(book)
        self._row = []
        # What is shut after the row, in the order in which it was shut.
        self._shut = []
        # Where in the row each deed stands that can be taken back, the latest one last.
        self._marks = []

    @property
    def free_book(self):
        """True if the book is free."""
        return self._free

    @property
    def deeds(self):
        """The deeds in the row, tuples."""
        return list(self._row)

    @property
    def shut_places(self):
        """The places that are shut, ascending."""
        return sorted(self._shut)

    @property
    def stands_now(self):
        """The stands."""
        # If places have been opened again, the book is free, and the order does not matter.
        return stands_after(self._book, self._shut)

    @property
    def limit(self):
        """The largest number of places that may be shut at the same time."""
        return self._limit

    @limit.setter
    def limit(self, number):
        """Change the limit."""
        if not len(self._shut) <= number <= self.size:
            raise BadNumber(number)
        self._limit = number

    def _put(self, at, deed, shut):
        """Put the deed into the row, so that it can be taken back; note what is shut then."""
        self._row.insert(at, deed)
        self._marks.append(at)
        self._shut = shut

    def shut(self, place):
        """Shut an open place."""
        check_place(self.size, place)
        deed = ("shut", place)
        shut = shut_after(self._shut, deed)
        if len(shut) > self._limit:
            raise Full()
        self._put(len(self._row), deed, shut)

    def reopen(self, place):
        """Open a shut place again."""
        check_place(self.size, place)
        if not self._free:
            raise NotFree()
        deed = ("reopen", place)
        self._put(len(self._row), deed, shut_after(self._shut, deed))

    def late(self, at, place):
        """Put a shutting that becomes known late into the row, before the deed with this index."""
        if not 0 <= at <= len(self._row):
            raise BadNumber(at)
        check_place(self.size, place)
        deed = ("shut", place)
        times = shut_at_times(self._row[:at] + [deed] + self._row[at:])
        if any([len(shut) > self._limit for shut in times]):
            raise Full()
        self._put(at, deed, times[-1])

    def undo(self):
        """Take back the latest deed that was done and not yet taken back."""
        if not self._marks:
            raise BadDeed()
        # All later deeds have been taken back, so the deed stands where it was put.
        at = self._marks.pop()
        del self._row[at]
        self._shut = shut_at_times(self._row)[-1]

    def do(self, deed):
        """Do a deed that is written as a tuple."""
        match deed:
            case ("shut", place):
                self.shut(place)
            case ("reopen", place):
                self.reopen(place)
            case ("late", at, place):
                self.late(at, place)
            case ("undo",):
                self.undo()
            case ("limit", number):
                self.limit = number
            case _:
                raise BadDeed()

    def where(self, place):
        """Return the stand of the folk of the place."""
        check_place(self.size, place)
        return self.stands_now[place]

    def who(self, goal):
        """Return the places whose folk stand at the goal, a place or HOME."""
        check_end(self.size, goal)
        return standing_at(self.stands_now, goal)

    def twin(self):
        """Return another street with the same book, deeds and limit, and the same to take back."""
        other = Street(self._book)
        other._limit = self._limit
        other._row = list(self._row)
        other._shut = list(self._shut)
        other._marks = list(self._marks)
        return other
