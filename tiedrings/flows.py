"""Where a crowd sits in a nest, whatever the order of coming, and how many pass each gate."""

from tiedrings.cards import HOME
from tiedrings.rooming import check_rooms, check_wishes
from tiedrings.treeview import members_by_node, way_home


def pass_round(surplus):
    """Return the least numbers of people who pass from member to member of a ring.

    `surplus` says how many more people than rooms each member has, without those who come round.
    """
    passing = [0] * len(surplus)
    # The ring has rooms for all, so a third round would let nobody else pass.
    for _ in range(2):
        for at, number in enumerate(surplus):
            passing[at] = max(0, passing[at - 1] + number)
    return passing


class Stream:
    """People on their way: who comes to each place, and how many pass the gates told so far."""

    def __init__(self, nest, rooms, wishes):
        self.nest = nest
        self.rooms = rooms
        self.coming = list(wishes)
        self.passing = {}

    def surplus(self, node):
        """Return how many more people than rooms the node has."""
        return sum([self.coming[place] - self.rooms[place] for place in node])

    def let_pass(self, node, number):
        """Note that so many people pass the gate of the node."""
        self.passing[node] = number
        gate = self.nest.gate_of(node)
        if gate != HOME:
            self.coming[gate] += number

    def pass_members(self, members):
        """Let people pass the gates of the members of a ring whose own gate nobody passes."""
        numbers = pass_round([self.surplus(member) for member in members])
        for member, number in zip(members, numbers):
            self.let_pass(member, number)

    def seated(self, place):
        """Return how many people sit at the place after all have come."""
        if (place,) in self.passing:
            return min(self.rooms[place], self.coming[place])
        return self.rooms[place]


def stream_of(nest, rooms, wishes):
    """Return the stream after all have come; nothing is checked."""
    stream = Stream(nest, rooms, wishes)
    tops = sorted(nest.tops(), key=lambda top: len(way_home(nest, top[0])), reverse=True)
    for top in tops:
        stream.let_pass(top, max(0, stream.surplus(top)))
    members = members_by_node(nest)
    for ring in reversed(nest.rings()):
        if stream.passing.get(ring) == 0:
            stream.pass_members(members[ring])
    return stream


def seated_in(nest, rooms, wishes):
    """Return the numbers of people at each place after all have come; nothing is checked."""
    stream = stream_of(nest, rooms, wishes)
    return [stream.seated(place) for place in range(nest.size)]


def check_crowd(nest, rooms, wishes):
    """Refuse rooms or wishes that are none of the nest."""
    check_rooms(nest.size, rooms)
    check_wishes(nest.size, wishes)


def flow(nest, rooms, wishes):
    """Return the numbers of people at each place, and who pass the gate of each node, or None."""
    check_crowd(nest, rooms, wishes)
    stream = stream_of(nest, rooms, wishes)
    sitting = [stream.seated(place) for place in range(nest.size)]
    return sitting, [stream.passing.get(node) for node, _ in nest]


def gone_home(nest, rooms, wishes):
    """Return the number of people who go home."""
    check_crowd(nest, rooms, wishes)
    return sum(wishes) - sum(seated_in(nest, rooms, wishes))
