"""Building a nest gate by gate."""

from tiedrings.cards import check_size
from tiedrings.errors import BadStep
from tiedrings.knots import Knots, leads_out, normal_order
from tiedrings.nests import Nest


class Tier:
    """Knows the singles at first, and each ring as soon as it is tied."""

    def __init__(self, size):
        check_size(size)
        self.size = size
        self._knots = Knots(size)
        self._waiting = [(place,) for place in range(size)]

    @property
    def waiting(self):
        """The known nodes that have no gate yet, in normal order."""
        return list(self._waiting)

    def put(self, places, gate):
        """Give the waiting node its gate; return the ring that this ties, or None."""
        if places not in self._waiting or not leads_out(self.size, places, gate):
            raise BadStep()
        ring = self._knots.put_gate(places, gate)
        left = [node for node in self._waiting if node != places]
        if ring is not None:
            left.append(ring)
        self._waiting = normal_order(left)
        return ring

    def finished(self):
        """Return the nest."""
        if self._waiting:
            raise BadStep()
        return Nest(self.size, list(self._knots.gates.items()))
