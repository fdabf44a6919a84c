"""Lots, bids and their tops [2.1, 2.2]."""

from hammersale.checks import is_rising, is_tuple_of, is_within
from hammersale.errors import NoBids, NoLot
from hammersale.ladders import GREATEST_BOUND, check_ladder, last_rung

GREATEST_BUYER = 7
MOST_BIDS = 8


def is_lot(thing):
    """Whether anything is a lot."""
    if not is_tuple_of(thing, 2, 2):
        return False
    start, least = thing
    return is_within(start, 1, GREATEST_BOUND) and is_within(least, start, GREATEST_BOUND)


def are_bids(thing):
    """Whether anything is bids."""
    if not is_tuple_of(thing, 0, MOST_BIDS):
        return False
    if not all([is_bid(pair) for pair in thing]):
        return False
    return len({buyer for buyer, bound in thing}) == len(thing)


def is_bid(thing):
    """Whether anything may be one tuple of bids."""
    if not is_tuple_of(thing, 2, 2):
        return False
    return is_buyer(thing[0]) and is_within(thing[1], 1, GREATEST_BOUND)


def is_buyer(thing):
    """Whether anything is a buyer."""
    return is_within(thing, 0, GREATEST_BUYER)


def are_rising_buyers(thing):
    """Whether anything is a rising tuple of buyers, perhaps of none."""
    if not isinstance(thing, tuple):
        return False
    return all([is_buyer(one) for one in thing]) and is_rising(thing)


def tops_of(ladder, lot, bids):
    """The tops of the bids, in their order, None for each that has none."""
    check_offer(ladder, lot, bids)
    start = lot[0]
    return [last_rung(ladder, start, bound) for buyer, bound in bids]


def check_offer(ladder, lot, bids):
    """Refuses what is no ladder, no lot, no bids, the one furthest to the left first."""
    check_ladder(ladder)
    check_lot(lot)
    check_bids(bids)


def check_lot(thing):
    """Refuses what is no lot."""
    if not is_lot(thing):
        raise NoLot("this is no lot")


def check_bids(thing):
    """Refuses what is no bids."""
    if not are_bids(thing):
        raise NoBids("these are no bids")
