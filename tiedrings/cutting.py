"""Taking places out of a nest for good."""

from tiedrings.cards import without_places
from tiedrings.nestcards import cards_of
from tiedrings.tying import tie


def cut(nest, gone):
    """Return the nest on the places that are not gone, and their old numbers."""
    book, kept = without_places(cards_of(nest), gone)
    return tie(book), kept
