"""Shapes: what renaming does not change in a nest."""

from math import factorial

from tiedrings.cards import HOME
from tiedrings.nestcards import cards_of


class Branch:
    """A top with all that leads into it.

    `order` is the walk through the top that gives the least code, `turns` the number of places of
    the top from which a walk gives this code, `hung` the branches at each place, by their codes.
    """

    def __init__(self, code, order, turns, hung):
        self.code = code
        self.order = order
        self.turns = turns
        self.hung = hung


def tops_by_gate(nest):
    """Return for each gate of a top the list of the tops that lead there."""
    hanging = {}
    for top in nest.tops():
        hanging.setdefault(nest.gate_of(top), []).append(top)
    return hanging


def code_of_all(branches):
    """Return the code of several branches, which are sorted."""
    return "".join([branch.code for branch in branches])


def walk_code(cards, order, hung):
    """Return the code of a top for this walk: its cards, and what hangs at each of its places."""
    number = {place: at for at, place in enumerate(order)}
    rows = []
    for place in order:
        inside = cards[place][:len(order) - 1]
        card = " ".join([str(number[entry]) for entry in inside])
        rows.append(f"{card}[{code_of_all(hung[place])}]")
    return "(" + ",".join(rows) + ")"


def branch_of(cards, hanging, top):
    """Return the branch of the top."""
    hung = {place: branches_at(cards, hanging, place) for place in top}
    orders = [[place] + cards[place][:len(top) - 1] for place in top]
    codes = [walk_code(cards, order, hung) for order in orders]
    least = min(codes)
    return Branch(least, orders[codes.index(least)], codes.count(least), hung)


def branches_at(cards, hanging, gate):
    """Return the branches that hang at the place or HOME, by their codes."""
    found = [branch_of(cards, hanging, top) for top in hanging.get(gate, [])]
    return sorted(found, key=lambda branch: branch.code)


def all_branches(nest):
    """Return the branches that hang at HOME, which are the whole nest."""
    return branches_at(cards_of(nest), tops_by_gate(nest), HOME)


def shape_code(nest):
    """Return a string that is the same for nests with the same shape, and for no others."""
    return code_of_all(all_branches(nest))


def pair_places(branches, others, names):
    """Note in `names` how to rename the branches to the others, which have the same codes."""
    for branch, other in zip(branches, others):
        for place, name in zip(branch.order, other.order):
            names[place] = name
            pair_places(branch.hung[place], other.hung[name], names)


def same_shape(nest, other):
    """Return names that rename the nest to the other one, or None."""
    branches = all_branches(nest)
    others = all_branches(other)
    if code_of_all(branches) != code_of_all(others):
        return None
    names = [HOME] * nest.size
    pair_places(branches, others, names)
    return names


def count_namings(branches):
    """Return in how many ways the branches at one gate can be renamed to themselves."""
    codes = [branch.code for branch in branches]
    number = 1
    for code in sorted(set(codes)):
        number *= factorial(codes.count(code))
    for branch in branches:
        number *= branch.turns
        for place in branch.order:
            number *= count_namings(branch.hung[place])
    return number


def own_namings(nest):
    """Return the number of renamings that leave the nest as it is."""
    return count_namings(all_branches(nest))
