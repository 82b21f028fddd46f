"""What the tests share: books, nests and rules to try, and plain walks to compare with."""

import copy
import itertools
import random
import unittest

from tiedrings.tiers import Tier

HOME = -1


def card_choices(size, place):
    """All cards that the place can have."""
    others = [other for other in range(size) if other != place]
    return [
        list(card)
        for length in range(size)
        for card in itertools.permutations(others, length)
    ]


def all_books(size):
    choices = [card_choices(size, place) for place in range(size)]
    for cards in itertools.product(*choices):
        yield [list(card) for card in cards]


def some_book(size, rng):
    book = []
    for place in range(size):
        others = [other for other in range(size) if other != place]
        rng.shuffle(others)
        book.append(others[:rng.choice([size - 1, size - 1, rng.randrange(size)])])
    return book


def some_books(size, number, seed):
    rng = random.Random(seed)
    return [some_book(size, rng) for _ in range(number)]


def all_nests(size):
    """All nests, by giving gates in every possible way."""
    def grow(steps):
        tier = Tier(size)
        for node, gate in steps:
            tier.put(node, gate)
        if not tier.waiting:
            yield tier.finished()
            return
        node = tier.waiting[0]
        for gate in [HOME] + [place for place in range(size) if place not in node]:
            yield from grow(steps + [(node, gate)])

    return grow([])


def some_nest(size, rng):
    tier = Tier(size)
    while tier.waiting:
        node = rng.choice(tier.waiting)
        outside = [place for place in range(size) if place not in node]
        tier.put(node, rng.choice([HOME] + outside * 2))
    return tier.finished()


def some_nests(size, number, seed):
    rng = random.Random(seed)
    return [some_nest(size, rng) for _ in range(number)]


def deep_nest(size):
    """Rings in rings: place k is tied with the ring of all places before it."""
    tier = Tier(size)
    ring = (0,)
    for place in range(1, size):
        tier.put(ring, place)
        ring = tier.put((place,), 0)
    tier.put(ring, HOME)
    return tier.finished()


def chain_nest(size):
    """Singles, each of which leads to the one before it."""
    tier = Tier(size)
    for place in range(size):
        tier.put((place,), place - 1)
    return tier.finished()


def round_nest(size):
    """One ring of all places."""
    tier = Tier(size)
    if size == 1:
        tier.put((0,), HOME)
        return tier.finished()
    ring = None
    for place in range(size):
        ring = tier.put((place,), (place + 1) % size)
    tier.put(ring, HOME)
    return tier.finished()


def all_rules(size):
    rows = []
    for number in range(2 ** size):
        shut = [place for place in range(size) if number // 2 ** place % 2]
        goals = [HOME] + [place for place in range(size) if place not in shut]
        choices = [goals if place in shut else [place] for place in range(size)]
        rows.append([list(row) for row in itertools.product(*choices)])
    for rule in itertools.product(*rows):
        yield [list(row) for row in rule]


def some_rule(size, rng):
    rule = []
    for number in range(2 ** size):
        shut = [place for place in range(size) if number // 2 ** place % 2]
        goals = [HOME] + [place for place in range(size) if place not in shut]
        rule.append([rng.choice(goals) if x in shut else x for x in range(size)])
    return rule


def plain_stands(book, order):
    """Stands by walking person by person, as point 8 tells it."""
    stands = {place: place for place in range(len(book))}
    shut = set()
    for place in order:
        shut.add(place)
        goal = next((entry for entry in book[place] if entry not in shut), HOME)
        for folk, stand in stands.items():
            if stand == place:
                stands[folk] = goal
    return [stands[place] for place in range(len(book))]


def plain_seats(book, wishes, rooms):
    """Seats by walking person by person, as point 9 tells it."""
    seats = []
    for wish in wishes:
        ways = [wish] + book[wish]
        seats.append(next((p for p in ways if seats.count(p) < rooms[p]), HOME))
    return seats


def plain_swallow(book, wishes, rooms, goal):
    """Numbers of people at each place while the goal swallows, person by person."""
    counts = [0] * len(book)
    for wish in wishes:
        ways = [wish] + book[wish]
        seat = next((p for p in ways if p == goal or counts[p] < rooms[p]), HOME)
        if seat != HOME:
            counts[seat] += 1
    return counts


def shuffled(people, rng):
    """The same people in another order."""
    mixed = list(people)
    rng.shuffle(mixed)
    return mixed


def all_lists(places):
    """All ascending lists of some of the places."""
    for length in range(len(places) + 1):
        for chosen in itertools.combinations(places, length):
            yield list(chosen)


def plain_ruled_stands(rule, order):
    stands = {place: place for place in range(len(rule[0]))}
    shut = set()
    for place in order:
        shut.add(place)
        goal = rule[sum(2 ** x for x in shut)][place]
        for folk, stand in stands.items():
            if stand == place:
                stands[folk] = goal
    return [stands[place] for place in range(len(rule[0]))]


def plain_ruled_seats(rule, wishes):
    seats = []
    for wish in wishes:
        full = {seat for seat in seats if seat != HOME}
        row = rule[sum(2 ** x for x in full)]
        seats.append(row[wish] if wish in full else wish)
    return seats


def orders_of_each(size):
    """For each list of places, all orders of it."""
    for length in range(size + 1):
        for places in itertools.combinations(range(size), length):
            yield [list(order) for order in itertools.permutations(places)]


def parted_places(size, settle):
    """The places whose folk some two orders of the same places part."""
    parted = set()
    for orders in orders_of_each(size):
        ends = [settle(order) for order in orders]
        for place in range(size):
            if len({end[place] for end in ends}) > 1:
                parted.add(place)
    return parted


def is_free_by_orders(book):
    return not parted_places(len(book), lambda order: plain_stands(book, order))


def spoil(value):
    """Change every list inside the value."""
    if isinstance(value, (list, tuple)):
        for item in value:
            spoil(item)
    if isinstance(value, list):
        value.append(99)
        value.reverse()


class Case(unittest.TestCase):
    """A test case that can ask for an error with its fields."""

    def refuses(self, error, fields, function, *args, **named):
        """The call raises just this class, with these fields, and changes no argument."""
        before = copy.deepcopy([a for a in args if isinstance(a, (list, tuple))])
        with self.assertRaises(error) as caught:
            result = function(*args, **named)
            # Generators check their arguments when they are first iterated.
            if hasattr(result, "__next__"):
                next(result)
        self.assertIs(type(caught.exception), error)
        self.assertEqual(vars(caught.exception), fields)
        self.assertEqual([a for a in args if isinstance(a, (list, tuple))], before)
