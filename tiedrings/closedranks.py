"""Numbers of closed nests, which have exactly one top."""

from tiedrings.cards import HOME, check_size
from tiedrings.choosing import nth_among, number_among
from tiedrings.errors import BadNest, BadNumber
from tiedrings.nestcounts import Counts, take_block
from tiedrings.nests import Nest
from tiedrings.treeview import members_by_node


def blocks_of(counts, places, fixed):
    """Return the blocks for the next member, in which the least place is fixed (1) or not (0)."""
    if fixed:
        return counts.ring_blocks(len(places))
    return counts.row_blocks(len(places))


def member_number(counts, places, fixed, member, marked):
    """Return what a member contributes to the number of its ring; `places` are those left."""
    size = len(member)
    chosen = number_among(places[fixed:], member[fixed:])
    before = sum(blocks_of(counts, places, fixed)[:size - 1])
    return before + (chosen * counts.marked(size) + marked) * counts.rows[len(places) - size]


def number_inside(nest, members, counts, node):
    """Return the number of the closed nest inside the node."""
    number = 0
    left = list(node)
    fixed = 1
    ring = members[node]
    for at, member in enumerate(ring):
        # For the first member this is the last one, whose gate leads round.
        entrance = nest.gate_of(ring[at - 1])
        inner = number_inside(nest, members, counts, member)
        marked = inner * len(member) + member.index(entrance)
        number += member_number(counts, left, fixed, member, marked)
        left = [place for place in left if place not in member]
        fixed = 0
    return number


def next_member(counts, places, fixed, number):
    """Return the next member, its marked number, and the number of the row behind it."""
    size, within = take_block(blocks_of(counts, places, fixed), number)
    head, row = divmod(within, counts.rows[len(places) - size])
    chosen, marked = divmod(head, counts.marked(size))
    return places[:fixed] + nth_among(places[fixed:], size - fixed, chosen), marked, row


def pairs_inside(counts, places, number, gate):
    """Return the nodes with gates of the closed nest with this number, whose top has the gate."""
    pairs = [(tuple(places), gate)]
    if len(places) == 1:
        return pairs
    ring = []
    left = places
    while left:
        member, marked, number = next_member(counts, left, 0 if ring else 1, number)
        inner, entrance = divmod(marked, len(member))
        ring.append((member, inner, member[entrance]))
        left = [place for place in left if place not in member]
    for at, (member, inner, _) in enumerate(ring):
        following = ring[(at + 1) % len(ring)]
        pairs.extend(pairs_inside(counts, member, inner, following[2]))
    return pairs


def closed_number(nest):
    """Return the number of the closed nest."""
    tops = nest.tops()
    if len(tops) > 1:
        raise BadNest()
    return number_inside(nest, members_by_node(nest), Counts(nest.size), tops[0])


def nth_closed(size, number):
    """Return the closed nest with this number."""
    check_size(size)
    counts = Counts(size)
    if not 0 <= number < counts.closed[size]:
        raise BadNumber(number)
    return Nest(size, pairs_inside(counts, list(range(size)), number, HOME))
