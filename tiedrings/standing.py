"""Where all folk of a nest stand while places are shut."""

from tiedrings.cards import HOME, check_list, first_not_in
from tiedrings.nestcards import cards_of
from tiedrings.shutting import standing_at


def stands_in(nest, shut):
    """Return the stands while just these places are shut; nothing is checked."""
    return [first_not_in([place] + card, shut) for place, card in enumerate(cards_of(nest))]


def stands_of(nest, shut):
    """Return the stands while just these places are shut."""
    check_list(nest.size, shut)
    return stands_in(nest, shut)


def groups_of(nest, shut):
    """Return the places where somebody stands, HOME last, each with those who stand there."""
    stands = stands_of(nest, shut)
    groups = [(place, standing_at(stands, place)) for place in list(range(nest.size)) + [HOME]]
    return [(place, folk) for place, folk in groups if folk]
