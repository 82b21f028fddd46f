"""Rehearsing deeds on a live street, which stays as it is."""


def change_limit(street, number):
    """Change the limit of the street."""
    street.limit = number


def rehearse(street, deeds):
    """Return the stands after the deeds."""
    # A twin does the deeds, so nothing has to be put back, even if one of them is refused.
    twin = street.twin()
    for deed in deeds:
        twin.do(deed)
    return twin.stands_now
