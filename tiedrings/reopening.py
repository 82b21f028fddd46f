"""Opening a shut place again."""

from tiedrings.cards import check_list
from tiedrings.errors import BadPlace
from tiedrings.shutting import standing_at
from tiedrings.standing import stands_in


def taken_back(nest, shut, place):
    """Return where all who come back to the place stood, and who they are."""
    check_list(nest.size, shut)
    if place not in shut:
        raise BadPlace(place)
    left = [other for other in shut if other != place]
    return stands_in(nest, shut)[place], standing_at(stands_in(nest, left), place)
