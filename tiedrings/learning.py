"""Learning an unknown nest by looks at the street."""

from tiedrings.cards import check_size
from tiedrings.errors import BadDeed, NoWorld
from tiedrings.knots import leads_out
from tiedrings.tiers import Tier


def check_look(size, node, stands):
    """Refuse stands that nobody can see while just the places of the node are shut."""
    if len(stands) != size:
        raise NoWorld()
    for place in range(size):
        if place not in node and stands[place] != place:
            raise NoWorld()
    gate = stands[node[0]]
    if not leads_out(size, node, gate) or any([stands[place] != gate for place in node]):
        raise NoWorld()


class Learner:
    """Finds a nest: asks for looks, and is told what is seen."""

    def __init__(self, size):
        self._tier = Tier(size)
        self._looks = 0

    @staticmethod
    def most(size):
        """Return the largest number of looks that a nest of this size can need."""
        check_size(size)
        return 2 * size - 1

    @property
    def asked(self):
        """The number of looks that have been told and not refused."""
        return self._looks

    @property
    def done(self):
        """True if the nest is found."""
        return self._tier.waiting == []

    def ask(self):
        """Return the places to shut for the next look, or None when the nest is found."""
        if self.done:
            return None
        return list(self._tier.waiting[0])

    def tell(self, stands):
        """Take the stands seen at the look that was asked for."""
        if self.done:
            raise BadDeed()
        node = self._tier.waiting[0]
        check_look(self._tier.size, node, stands)
        self._tier.put(node, stands[node[0]])
        self._looks += 1

    def found(self):
        """Return the nest."""
        if not self.done:
            raise BadDeed()
        return self._tier.finished()
