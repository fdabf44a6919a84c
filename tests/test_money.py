"""Terms and bills [5.1], parts and shares [5.2]."""

import itertools
import math
import unittest
from fractions import Fraction

from hammersale import money
from hammersale.errors import NoParts, NoPrice, NoTerms
from hammersale.money import are_parts, bill_of, is_terms, parted_along
from tests.things import (HUGE, assert_looker, assert_parameters, assert_refused, assert_refuses_each, number_borders)

GOOD_TERMS = [(0, 0), (50, 50), (0, 50), (50, 0), (1, 49), (20, 15)]
BAD_TERMS = [
    (-1, 0), (0, -1), (51, 0), (0, 51), (51, 51), (True, 0), (0, True), (False, 0), (0, False), (True, True),
    [0, 0], [20, 15], (20,), (20, 15, 10), (), ((20, 15),), (20, (15,)), ([20], 15), (None, 15), (20, None),
    ("20", "15"), ("20", 15), (20, "15"), ({}, 15), (HUGE, 0), (0, -HUGE), "20", {20: 15, 15: 20}, 20, 0, None,
]

ALL_FOUR = ((0, 1), (2, 100), (5, 50), (7, 7))
GOOD_PARTS = [ALL_FOUR[:many] for many in (1, 2, 3, 4)] + [
    ((7, 100),), ((0, 100), (1, 100), (2, 100), (3, 100)), ((4, 1), (5, 1), (6, 1), (7, 1)), ((6, 5), (7, 5)),
    ((0, 1), (7, 1)), ((0, 9), (1, 3)),
]
BAD_PARTS = [
    (), ((-1, 5),), ((8, 5),), ((0, 0),), ((0, -1),), ((0, 101),), ((0, 5), (8, 5)), ((0, 5), (1, 0)),
    ((0, 5), (1, 101)), ((-1, 5), (0, 5)), ((1, 5), (0, 5)), ((0, 5), (0, 5)), ((0, 5), (0, 6)),
    ((0, 5), (2, 5), (1, 5)), ((0, 5), (2, 5), (2, 6)), ((0, 5), (1, 5), (2, 5), (2, 5)),
    ((0, 5), (1, 5), (2, 5), (3, 5), (4, 5)), ((True, 5),), ((False, 5),), ((0, True),), ((0, 5), (True, 5)),
    ((0, 5), (1, True)), [], [(0, 5)], ([0, 5],), ((0, 5), [1, 5]), [(0, 5), (1, 5)], ((0,),), ((0, 5, 5),), ((),),
    ((0, 5), (1,)), ((0, 5), (1, 5, 5)), ((0, 5), ()), (0, 5), ((None, 5),), ((0, None),), (("0", "5"),),
    (("0", 5),), ((0, "5"),), (([], 5),), ((0, {}),), (((0,), 5),), ((0, 5), None), ((0, 5), "15"),
    ((0, 5), {1: 5, 5: 1}), ((0, 5), 1), ((None, 5), (1, 5)), ((0, 5), (None, 5)), ((0, 5), ("1", 5)), "05", {0: 5},
    {(0, 5): (1, 5)}, None, 0, ((0, HUGE),), ((HUGE, 5),), ((0, -HUGE),), ((0, 5), ([], 5)),
]


def bill_by_fractions(terms, price):
    premium, commission = terms
    owed = math.ceil(price + Fraction(price * premium, 100))
    got = math.floor(Fraction(price * (100 - commission), 100))
    return (owed, got, owed - got)


def parted_by_fractions(parts, amount):
    whole = sum(part for seller, part in parts)
    sums = [math.floor(Fraction(amount * part, whole))
            for part in itertools.accumulate(part for seller, part in parts)]
    return [(seller, upto - ahead) for (seller, part), upto, ahead in zip(parts, sums, [0] + sums)]


class LookersTest(unittest.TestCase):
    def test_is_terms(self):
        assert_looker(self, is_terms, GOOD_TERMS, BAD_TERMS)

    def test_are_parts(self):
        assert_looker(self, are_parts, GOOD_PARTS, BAD_PARTS)

    def test_interface(self):
        assert_parameters(self, money, {
            "is_terms": "thing", "are_parts": "thing", "bill_of": "terms price", "parted_along": "parts amount"})


class BillOfTest(unittest.TestCase):
    def test_by_hand(self):
        told = [
            ((10, 15), 100, (110, 85, 25)),
            ((10, 15), 99, (109, 84, 25)),
            ((10, 15), 101, (112, 85, 27)),
            ((10, 0), 1, (2, 1, 1)),
            ((1, 1), 1, (2, 0, 2)),
            ((0, 0), 1, (1, 1, 0)),
            ((0, 50), 1, (1, 0, 1)),
            ((50, 50), 1, (2, 0, 2)),
            ((50, 50), 2, (3, 1, 2)),
            ((50, 50), 3, (5, 1, 4)),
            ((1, 0), 100, (101, 100, 1)),
            ((1, 0), 101, (103, 101, 2)),
            ((0, 1), 99, (99, 98, 1)),
            ((0, 1), 100, (100, 99, 1)),
            ((0, 1), 101, (101, 99, 2)),
        ]
        for terms, price, due in told:
            self.assertEqual(bill_of(terms, price), due)

    def test_price_0(self):
        for terms in itertools.product((0, 1, 49, 50), repeat=2):
            self.assertEqual(bill_of(terms, 0), (0, 0, 0))

    def test_the_greatest_price(self):
        self.assertEqual(bill_of((0, 0), 10 ** 9), (10 ** 9, 10 ** 9, 0))
        self.assertEqual(bill_of((50, 50), 10 ** 9), (1500000000, 500000000, 10 ** 9))
        self.assertEqual(bill_of((17, 13), 10 ** 9 - 1), (1169999999, 869999999, 300000000))

    def test_against_fractions(self):
        prices = list(range(0, 205, 3)) + [999, 12345, 10 ** 9 - 1, 10 ** 9]
        for terms in itertools.product(range(0, 51, 3), range(0, 51, 2)):
            for price in prices:
                self.assertEqual(bill_of(terms, price), bill_by_fractions(terms, price), (terms, price))
        for terms, price in itertools.product(itertools.product(range(51), repeat=2), (1, 7, 99, 101)):
            self.assertEqual(bill_of(terms, price), bill_by_fractions(terms, price), (terms, price))

    def test_refusals(self):
        assert_refuses_each(self, bill_of, ((20, 15), 100), (NoTerms, NoPrice))
        prices, no_prices = number_borders(0, 10 ** 9)
        for terms, price in itertools.product(GOOD_TERMS, prices):
            bill_of(terms, price)
        for terms, price in itertools.product(BAD_TERMS, prices + no_prices + (None,)):
            assert_refused(self, NoTerms, bill_of, terms, price)
        for terms, price in itertools.product(GOOD_TERMS, no_prices + (True, "5", None, (5,), [5], HUGE)):
            assert_refused(self, NoPrice, bill_of, terms, price)

    def test_kinds(self):
        self.assertIs(type(bill_of((20, 15), 99)), tuple)
        self.assertTrue(all(type(one) is int for one in bill_of((20, 15), 99)))


class PartedAlongTest(unittest.TestCase):
    def test_by_hand(self):
        thirds = ((0, 1), (3, 1), (7, 1))
        told = [
            (((5, 7),), 99, [(5, 99)]),
            (((0, 1), (1, 1)), 5, [(0, 2), (1, 3)]),
            (((0, 1), (1, 2)), 5, [(0, 1), (1, 4)]),
            (((0, 2), (1, 1)), 5, [(0, 3), (1, 2)]),
            (thirds, 0, [(0, 0), (3, 0), (7, 0)]),
            (thirds, 1, [(0, 0), (3, 0), (7, 1)]),
            (thirds, 2, [(0, 0), (3, 1), (7, 1)]),
            (thirds, 10, [(0, 3), (3, 3), (7, 4)]),
            (thirds, 10 ** 12, [(0, 333333333333), (3, 333333333333), (7, 333333333334)]),
            (((0, 100), (1, 1)), 100, [(0, 99), (1, 1)]),
            (((0, 1), (1, 100)), 100, [(0, 0), (1, 100)]),
            (((2, 5), (3, 5), (4, 5), (5, 5)), 7, [(2, 1), (3, 2), (4, 2), (5, 2)]),
        ]
        for parts, amount, due in told:
            self.assertEqual(parted_along(parts, amount), due)

    def test_against_fractions_and_the_shares_come_to_the_sum(self):
        amounts = list(range(0, 30)) + [99, 100, 101, 9999, 10 ** 12 - 1, 10 ** 12]
        every = GOOD_PARTS + [tuple(enumerate(row)) for many in (1, 2, 3, 4)
                              for row in itertools.product((1, 2, 3, 99, 100), repeat=many)][::5]
        for parts, amount in itertools.product(every, amounts):
            told = parted_along(parts, amount)
            self.assertEqual(told, parted_by_fractions(parts, amount), (parts, amount))
            self.assertEqual(sum(share for seller, share in told), amount)
            self.assertTrue(all(share >= 0 for seller, share in told))
            self.assertEqual([seller for seller, share in told], [seller for seller, part in parts])

    def test_refusals(self):
        assert_refuses_each(self, parted_along, (ALL_FOUR, 100), (NoParts, NoPrice))
        sums, no_sums = number_borders(0, 10 ** 12)
        for parts, amount in itertools.product(GOOD_PARTS, sums):
            parted_along(parts, amount)
        for parts, amount in itertools.product(BAD_PARTS, sums + no_sums + (None,)):
            assert_refused(self, NoParts, parted_along, parts, amount)
        for parts, amount in itertools.product(GOOD_PARTS, no_sums + (True, "5", None, (5,), [5], HUGE)):
            assert_refused(self, NoPrice, parted_along, parts, amount)

    def test_the_askers_own(self):
        told = parted_along(ALL_FOUR, 1000)
        self.assertIs(type(told), list)
        before = list(told)
        told.append(5)
        told[0] = None
        self.assertEqual(parted_along(ALL_FOUR, 1000), before)

    def test_what_was_told_may_be_handed_in_again(self):
        assert_refused(self, NoParts, parted_along, parted_along(ALL_FOUR, 100), 100)
        self.assertEqual(parted_along(tuple(parted_along(((0, 1), (1, 1)), 8)), 8), [(0, 4), (1, 4)])


if __name__ == "__main__":
    unittest.main()
