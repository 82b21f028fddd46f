"""Gate words: one word for each way to lead the tops of a nest home."""

from tiedrings.cards import HOME, check_end
from tiedrings.errors import BadSize
from tiedrings.nests import Nest


def first_outside(tops, places):
    """Return the first top that contains none of the places; HOME may be among them."""
    for top in tops:
        if not any([place in top for place in places]):
            return top
    return None


def gate_word(nest):
    """Return the gate word of the nest."""
    word = []
    left = nest.tops()
    while len(left) > 1:
        top = first_outside(left, [nest.gate_of(other) for other in left])
        word.append(nest.gate_of(top))
        left.remove(top)
    return word


def gates_of_word(tops, word):
    """Return the gates by their tops; the word has one letter less than there are tops."""
    gates = {}
    left = list(tops)
    for at, letter in enumerate(word):
        top = first_outside(left, word[at:])
        gates[top] = letter
        left.remove(top)
    gates[left[0]] = HOME
    return gates


def check_word(size, tops, word):
    """Refuse a word that does not have one letter less than there are tops, or a wrong letter."""
    if len(word) != len(tops) - 1:
        raise BadSize(len(word))
    for letter in word:
        check_end(size, letter)


def hang_tops(nest, word):
    """Return the nest with the same tops, led home by the word."""
    tops = nest.tops()
    check_word(nest.size, tops, word)
    gates = gates_of_word(tops, word)
    return Nest(nest.size, [(node, gates.get(node, gate)) for node, gate in nest])
