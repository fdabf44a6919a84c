"""Rings: buyers who bid as one, and what they save by it [4.1, 4.2]."""

from hammersale.bids import MOST_BIDS, are_rising_buyers, check_bids, check_offer
from hammersale.checks import is_number, is_tuple_of, is_within
from hammersale.errors import NoNumber, NoRing
from hammersale.walks import hammer_of


def is_ring(thing):
    """Whether anything is a ring."""
    return are_rising_buyers(thing) and len(thing) > 0


def as_one(bids, ring):
    """The bids in which those by buyers of the ring are one bid."""
    check_bids(bids)
    check_ring(ring)
    theirs = [row for row in bids if row[0] in ring]
    if len(theirs) < 2:
        return bids
    joined = (min([buyer for buyer, bound in theirs]), max([bound for buyer, bound in theirs]))
    kept = [row for row in bids if row == theirs[0] or row[0] not in ring]
    return tuple([joined if row == theirs[0] else row for row in kept])


def saving_of(ladder, lot, bids, ring):
    """What the ring saves by bidding as one, None where the lot isn't sold in one of both."""
    apart = price_sold(ladder, lot, bids)
    return saving_from(apart, ladder, lot, as_one(bids, ring))


def saving_from(apart, ladder, lot, joined):
    """What the price apart is more than that by the joined bids, None where one of both is None."""
    together = price_sold(ladder, lot, joined)
    if apart is None or together is None:
        return None
    return apart - together


def price_sold(ladder, lot, bids):
    """The price at which the lot is sold, None where it isn't."""
    told = hammer_of(ladder, lot, bids)
    return told[2] if told[0] == "sold" else None


def is_saving(ladder, lot, bids, thing):
    """Whether anything is a tuple (ring, number) of a ring and its saving."""
    check_offer(ladder, lot, bids)
    if not is_tuple_of(thing, 2, 2):
        return False
    ring, number = thing
    return is_ring(ring) and is_number(number) and saving_of(ladder, lot, bids, ring) == number


def best_ring(ladder, lot, bids, many):
    """The first of the rings of so many of those who bid whose saving is the greatest, None where there is none."""
    check_offer(ladder, lot, bids)
    check_many(many)
    apart = price_sold(ladder, lot, bids)
    best = greatest = None
    for ring in rings_of(sorted([buyer for buyer, bound in bids]), many):
        saving = saving_from(apart, ladder, lot, as_one(bids, ring))
        if saving is not None and (greatest is None or saving > greatest):
            best, greatest = ring, saving
    return best


def rings_of(buyers, many):
    """The rings of so many of the rising buyers, in the order in which tuples compare."""
    rings = [()]
    for turn in range(many):
        rings = [ring + (buyer,) for ring in rings for buyer in buyers if not ring or buyer > ring[-1]]
    return rings


def check_ring(thing):
    """Refuses what is no ring."""
    if not is_ring(thing):
        raise NoRing("this is no ring")


def check_many(thing):
    """Refuses what is no number of buyers of a ring."""
    if not is_within(thing, 1, MOST_BIDS):
        raise NoNumber(f"this is no number from 1 to {MOST_BIDS}")
