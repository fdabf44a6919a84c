"""The walk: who takes each rung, who has the lot and who comes next [3.1 to 3.4]."""

from hammersale.bids import are_rising_buyers, tops_of
from hammersale.checks import is_number
from hammersale.errors import NoBuyers
from hammersale.ladders import check_rung, price_at


def rungs_taken(ladder, lot, bids):
    """How many rungs are taken."""
    course = course_of(ladder, lot, bids)
    if not course:
        return 0
    return course[-1][1] + 1


def taker_of(ladder, lot, bids, rung):
    """The buyer who takes a rung, None where nobody does."""
    course = course_of(ladder, lot, bids)
    check_rung(rung)
    for stretch in course:
        if rung <= stretch[1]:
            return taker_in(stretch, rung)
    return None


def course_of(ladder, lot, bids):
    """The stretches that go through all rungs taken."""
    tops = tops_by_buyer(ladder, lot, bids)
    course = []
    rung = 0
    taker = taker_behind(tops, rung, None)
    while taker is not None:
        stretch = stretch_from(tops, rung, taker)
        course.append(stretch)
        last = stretch[1]
        rung = last + 1
        taker = taker_behind(tops, rung, taker_in(stretch, last))
    return course


def tops_by_buyer(ladder, lot, bids):
    """The tops of those who have one, in the order of the bids."""
    tops = tops_of(ladder, lot, bids)
    return {buyer: top for (buyer, bound), top in zip(bids, tops) if top is not None}


def taker_behind(tops, rung, ahead):
    """Who takes a rung when the buyer ahead took the one just ahead, None where nobody does."""
    for buyer in tops:
        if tops[buyer] >= rung and buyer != ahead:
            return buyer
    return None


def stretch_from(tops, first, one):
    """The stretch that one begins with the rung first."""
    other = taker_behind(tops, first + 1, one)
    if other is None:
        return (first, first, one, None)
    # Whose top reaches a later rung reaches these two as well, so a third one who stood ahead would have taken one of
    # them. So both take their turns until one is beyond the top of whose turn it is.
    missed = min(turn_missed(first, tops[one]), turn_missed(first + 1, tops[other]))
    return (first, missed - 1, one, other)


def turn_missed(turn, top):
    """The first one beyond top of the rung turn and each second one behind it."""
    return turn + ((top - turn) // 2 + 1) * 2


def taker_in(stretch, rung):
    """Who takes a rung of a stretch."""
    first, last, one, other = stretch
    return one if (rung - first) % 2 == 0 else other


def is_course(ladder, lot, bids, thing):
    """Whether anything is the course."""
    course = course_of(ladder, lot, bids)
    if not isinstance(thing, list) or len(thing) != len(course):
        return False
    return all([is_stretch(told, stretch) for told, stretch in zip(thing, course)])


def is_stretch(thing, stretch):
    """Whether anything is this very stretch."""
    # A truth equals a number, so it is not enough that both are equal.
    return thing == stretch and all([one is None or is_number(one) for one in thing])


def chain_of(ladder, lot, bids):
    """The tuples (buyer, price) of all who took a rung, with the last price that they took; the greatest first."""
    rungs = {}
    for stretch in course_of(ladder, lot, bids):
        first, last, one, other = stretch
        for rung in range(max(first, last - 1), last + 1):
            rungs[taker_in(stretch, rung)] = rung
    rows = sorted([(rungs[buyer], buyer) for buyer in rungs], reverse=True)
    return [(buyer, price_at(ladder, lot[0], rung)) for rung, buyer in rows]


def hammer_of(ladder, lot, bids):
    """The tuple ("sold", buyer, price, next), or ("in", price)."""
    chain = chain_of(ladder, lot, bids)
    if not chain:
        return ("in", None)
    buyer, price = chain[0]
    if price < lot[1]:
        return ("in", price)
    return ("sold", buyer, price, chain[1] if len(chain) > 1 else None)


def fallen_to(ladder, lot, bids, gone):
    """The first tuple of the chain whose buyer isn't gone, None where there is none or its price is below least."""
    chain = chain_of(ladder, lot, bids)
    check_gone(gone)
    left = [row for row in chain if row[0] not in gone]
    if not left or left[0][1] < lot[1]:
        return None
    return left[0]


def check_gone(thing):
    """Refuses what is no rising tuple of buyers."""
    if not are_rising_buyers(thing):
        raise NoBuyers("these are no rising buyers")
