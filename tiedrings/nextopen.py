"""Where the folk of a place stand in a nest while places are shut."""

from tiedrings.cards import check_list, check_place, first_not_in
from tiedrings.nestcards import card_of


def next_open(nest, place, shut):
    """Return the stand of the folk of the place while just these places are shut."""
    check_place(nest.size, place)
    check_list(nest.size, shut)
    return first_not_in([place] + card_of(nest, place), shut)
