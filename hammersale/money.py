"""Money: terms and bills, parts and shares [5.1, 5.2]."""

from hammersale.checks import is_rising, is_tuple_of, is_within
from hammersale.errors import NoParts, NoTerms
from hammersale.ladders import check_price

GREATEST_TERM = 50
GREATEST_BILL = 10 ** 9
MOST_PARTS = 4
GREATEST_SELLER = 7
GREATEST_PART = 100
GREATEST_SUM = 10 ** 12


def is_terms(thing):
    """Whether anything is terms."""
    return is_tuple_of(thing, 2, 2) and all([is_within(one, 0, GREATEST_TERM) for one in thing])


def bill_of(terms, price):
    """The tuple (owed, got, kept) of a price."""
    check_terms(terms)
    check_price(price, 0, GREATEST_BILL)
    premium, commission = terms
    owed = price + (price * premium + 99) // 100
    got = price * (100 - commission) // 100
    return (owed, got, owed - got)


def are_parts(thing):
    """Whether anything is parts."""
    if not is_tuple_of(thing, 1, MOST_PARTS):
        return False
    return all([is_part(pair) for pair in thing]) and is_rising([seller for seller, part in thing])


def is_part(thing):
    """Whether anything may be one tuple of parts."""
    if not is_tuple_of(thing, 2, 2):
        return False
    return is_seller(thing[0]) and is_within(thing[1], 1, GREATEST_PART)


def is_seller(thing):
    """Whether anything is a seller."""
    return is_within(thing, 0, GREATEST_SELLER)


def parted_along(parts, amount):
    """The tuples (seller, share) of an amount, in the order of the parts."""
    check_parts(parts)
    check_price(amount, 0, GREATEST_SUM)
    whole = sum([part for seller, part in parts])
    counted = 0
    given = 0
    shares = []
    for seller, part in parts:
        counted += part
        # Only what the sellers so far have together is rounded, so no penny of the whole amount is lost.
        together = amount * counted // whole
        shares.append((seller, together - given))
        given = together
    return shares


def check_terms(thing):
    """Refuses what is no terms."""
    if not is_terms(thing):
        raise NoTerms("these are no terms")


def check_parts(thing):
    """Refuses what is no parts."""
    if not are_parts(thing):
        raise NoParts("these are no parts")
