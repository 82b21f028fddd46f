"""Reports of a live street."""

from tiedrings.shutting import standing_at
from tiedrings.words import name_of


def report_line(name, state, stand, number):
    """Return the line of one place."""
    return f"{name:<8} {state} {stand:<8} {number:>2}"


def report(street, names):
    """Return a line for each place of the street."""
    shut = street.shut_places
    stands = street.stands_now
    lines = []
    for place, stand in enumerate(stands):
        state = "shut" if place in shut else "open"
        number = len(standing_at(stands, place))
        lines.append(report_line(names[place], state, name_of(names, stand), number))
    return lines
