"""Numbers of nests."""

from tiedrings.cards import HOME, check_size
from tiedrings.choosing import nth_among, number_among
from tiedrings.closedranks import number_inside, pairs_inside
from tiedrings.errors import BadNumber, BadSize
from tiedrings.gatewords import gate_word, gates_of_word
from tiedrings.nestcounts import Counts, count_nests, take_block
from tiedrings.nests import Nest
from tiedrings.treeview import members_by_node

MOST_LISTED = 4


def letter_number(size, letter):
    """Return the number of a letter: HOME comes behind all places."""
    return size if letter == HOME else letter


def numbered_letter(size, number):
    """Return the letter with this number."""
    return HOME if number == size else number


def top_number(counts, places, top, inside, letter):
    """Return what a top contributes to the number of its nest; the first one has no letter."""
    size = len(top)
    letters = 1 if letter is None else counts.letters
    chosen = number_among(places[1:], top[1:])
    before = sum(counts.top_blocks(len(places), letters)[:size - 1])
    head = chosen * counts.closed[size] + inside
    if letter is not None:
        head = head * letters + letter_number(counts.letters - 1, letter)
    return before + head * counts.rests[len(places) - size]


def nest_number(nest):
    """Return the number of the nest."""
    counts = Counts(nest.size)
    members = members_by_node(nest)
    number = 0
    left = list(range(nest.size))
    for top, letter in zip(nest.tops(), [None] + gate_word(nest)):
        inside = number_inside(nest, members, counts, top)
        number += top_number(counts, left, top, inside, letter)
        left = [place for place in left if place not in top]
    return number


def next_top(counts, places, letters, number):
    """Return the next top, its closed number, its letter's number, and the rest number."""
    size, within = take_block(counts.top_blocks(len(places), letters), number)
    head, rest = divmod(within, counts.rests[len(places) - size])
    head, letter = divmod(head, letters)
    chosen, inside = divmod(head, counts.closed[size])
    top = places[:1] + nth_among(places[1:], size - 1, chosen)
    return top, inside, letter, rest


def nest_at(counts, size, number):
    """Return the nest with this number, which is in range."""
    tops = []
    word = []
    left = list(range(size))
    while left:
        letters = counts.letters if tops else 1
        top, inside, letter, number = next_top(counts, left, letters, number)
        if tops:
            word.append(numbered_letter(size, letter))
        tops.append((top, inside))
        left = [place for place in left if place not in top]
    gates = gates_of_word([tuple(top) for top, _ in tops], word)
    pairs = []
    for top, inside in tops:
        pairs.extend(pairs_inside(counts, top, inside, gates[tuple(top)]))
    return Nest(size, pairs)


def nth_nest(size, number):
    """Return the nest with this number."""
    check_size(size)
    counts = Counts(size)
    if not 0 <= number < counts.nests():
        raise BadNumber(number)
    return nest_at(counts, size, number)


def all_nests(size):
    """Yield all nests with up to four places by their numbers."""
    if not 1 <= size <= MOST_LISTED:
        raise BadSize(size)
    counts = Counts(size)
    for number in range(count_nests(size)):
        yield nest_at(counts, size, number)
