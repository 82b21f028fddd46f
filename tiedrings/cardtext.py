"""The text of a book: one line for each card."""

from tiedrings.cards import check_book
from tiedrings.errors import BadLine

MOST_DIGITS = 9


def format_line(place, card):
    """Return the line of one card."""
    return " ".join([f"{place}:"] + [str(entry) for entry in card])


def format_book(book):
    """Return the text of the book."""
    check_book(book)
    return "\n".join([format_line(place, card) for place, card in enumerate(book)])


def is_number(word):
    """Tell whether the word is a number of one to nine digits without a leading zero."""
    if not 1 <= len(word) <= MOST_DIGITS:
        return False
    if not word.isascii() or not word.isdigit():
        return False
    return word == "0" or word[0] != "0"


def parse_line(number, line):
    """Return the card of line `number`."""
    head, *words = line.split(" ")
    if head != f"{number}:":
        raise BadLine(number)
    for word in words:
        # Only short words are made integers, since Python refuses very long ones.
        if not is_number(word):
            raise BadLine(number)
    return [int(word) for word in words]


def parse_book(text):
    """Return the book that the text tells."""
    book = [parse_line(number, line) for number, line in enumerate(text.split("\n"))]
    check_book(book)
    return book
