"""Judging a rule."""

from tiedrings.rules import add_to_row, check_rule, in_row, read_cards, row_places
from tiedrings.tying import tie
from tiedrings.verdicts import Free, Torn


def fails_at(rule, number, place, further):
    """Tell whether shutting one more place sends the folk elsewhere than from where they are."""
    goal = rule[number][place]
    row = rule[add_to_row(number, further)]
    asked = row[further] if goal == further else goal
    return row[place] != asked


def first_failure(rule):
    """Return the least triple (row number, shut place, further place) that fails, or None."""
    size = len(rule[0])
    for number in range(len(rule)):
        for place in row_places(size, number):
            for further in range(size):
                if not in_row(number, further) and fails_at(rule, number, place, further):
                    return number, place, further
    return None


def judge_rule(rule):
    """Return the verdict on the rule, with what shows it."""
    check_rule(rule)
    failure = first_failure(rule)
    if failure is None:
        return Free(tie(read_cards(rule)))
    number, place, further = failure
    shut = row_places(len(rule[0]), number)
    others = [other for other in shut if other != place]
    orders = (others + [place, further], others + [further, place])
    crowds = (shut + [place, further], shut + [further, place])
    return Torn(place, orders, crowds)
