"""The walk rung by rung, as point 3.1 tells it, and small offers to walk."""

import itertools
import random

from hammersale.ladders import price_behind

LADDERS = (((0, 1),), ((0, 2),), ((0, 1), (3, 2)), ((0, 3), (4, 1), (6, 2), (9, 5)))


def walked(ladder, lot, bids):
    """The tuples (buyer, price) of the rungs taken."""
    rows = []
    price = lot[0]
    ahead = None
    while True:
        able = [buyer for buyer, bound in bids if bound >= price and buyer != ahead]
        if not able:
            return rows
        ahead = able[0]
        rows.append((ahead, price))
        price = price_behind(ladder, price)


def course_walked(takers):
    """The stretches of the buyers who took the rungs, each as far as two take them by turns."""
    course = []
    first = 0
    while first < len(takers):
        pair = (takers[first:first + 2] + [None])[:2]
        last = first
        while last + 1 < len(takers) and takers[last + 1] == pair[(last + 1 - first) % 2]:
            last += 1
        course.append((first, last, pair[0], pair[1]))
        first = last + 1
    return course


def chain_walked(rows):
    """The last price of each buyer, the greatest first."""
    return sorted(dict(rows).items(), key=lambda row: -row[1])


def bounds_of_few():
    """All bounds of none to four bids within a small range: tops alike, one apart, below the start."""
    yield from itertools.product(range(1, 8), repeat=0)
    yield from itertools.product(range(1, 8), repeat=1)
    yield from itertools.product(range(1, 8), repeat=2)
    yield from itertools.product(range(1, 6), repeat=3)
    yield from itertools.product((2, 4, 5), repeat=4)


def small_bids():
    """Bids of none to eight buyers, the same ones each time."""
    dice = random.Random(3)
    for bounds in bounds_of_few():
        yield tuple(zip(dice.sample(range(8), len(bounds)), bounds))
    for many in (5, 6, 7, 8):
        for low, high in ((1, 9), (4, 6), (5, 5), (6, 20)):
            for turn in range(6):
                yield tuple((buyer, dice.randint(low, high)) for buyer in dice.sample(range(8), many))


def small_offers(starts=(1, 2, 4), least=5):
    """The tuples (ladder, lot, bids) of all small ladders, starts and bids."""
    every = list(small_bids())
    return [(ladder, (start, least), bids) for ladder in LADDERS for start in starts for bids in every]
