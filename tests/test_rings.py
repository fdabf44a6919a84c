"""Rings that bid as one [4.1], what they save and which saves most [4.2]."""

import copy
import itertools
import unittest

from hammersale import rings
from hammersale.bids import are_bids
from hammersale.errors import NoBids, NoLadder, NoLot, NoNumber, NoRing
from hammersale.ladders import price_behind
from hammersale.rings import as_one, best_ring, is_saving, saving_of
from tests.slow_walk import small_bids, small_offers, walked
from tests.test_bids import BAD_BIDS, BAD_LOTS
from tests.test_ladders import BAD as BAD_LADDERS
from tests.test_walks import BAD_GONE
from tests.things import (HUGE, assert_parameters, assert_refused, assert_refuses_each, number_borders, odd_things,
                          told_at_once)

ONES = ((0, 1),)
TWOS = ((0, 2),)
RINGS = [ring for many in range(1, 9) for ring in itertools.combinations(range(8), many)]
BAD_RINGS = BAD_GONE + [()]
OFFERS = small_offers((1, 4), 5)

# Apart 1 and 2 take the prices from 4 to 9 by turns; as one they take 2 and 4, and nobody reaches 5 against them.
SAVES = (ONES, (1, 1), ((0, 4), (1, 9), (2, 9)))
# Apart 6 and 1 take the prices 2 to 5 by turns, 5 takes 6. With 6 and 1 as one, theirs is price 6, so 5 takes 7.
LOSES = (ONES, (2, 5), ((6, 5), (1, 6), (5, 10)))


def joined(bids, ring):
    """As point 4.1 tells it, bid by bid."""
    theirs = [(buyer, bound) for buyer, bound in bids if buyer in ring]
    rows = []
    for buyer, bound in bids:
        if buyer not in ring:
            rows.append((buyer, bound))
        elif (buyer, bound) == theirs[0]:
            rows.append((min(one for one, much in theirs), max(much for one, much in theirs)))
    return tuple(rows)


def price_walked(ladder, lot, bids):
    rows = walked(ladder, lot, bids)
    return rows[-1][1] if rows and rows[-1][1] >= lot[1] else None


def saving_walked(ladder, lot, bids, ring):
    apart = price_walked(ladder, lot, bids)
    together = price_walked(ladder, lot, joined(bids, ring))
    return None if apart is None or together is None else apart - together


def best_walked(ladder, lot, bids, many):
    every = itertools.combinations(sorted(buyer for buyer, bound in bids), many)
    savings = [(saving_walked(ladder, lot, bids, ring), ring) for ring in every]
    savings = [(saving, ring) for saving, ring in savings if saving is not None]
    if not savings:
        return None
    greatest = max(saving for saving, ring in savings)
    return min(ring for saving, ring in savings if saving == greatest)


class AsOneTest(unittest.TestCase):
    BIDS = ((5, 30), (2, 10), (7, 50), (0, 20), (3, 50))

    def test_by_hand(self):
        told = [
            ((0, 2), ((5, 30), (0, 20), (7, 50), (3, 50))),
            ((2, 7), ((5, 30), (2, 50), (0, 20), (3, 50))),
            ((3, 5), ((3, 50), (2, 10), (7, 50), (0, 20))),
            ((0, 3), ((5, 30), (2, 10), (7, 50), (0, 50))),
            ((3, 7), ((5, 30), (2, 10), (3, 50), (0, 20))),
            ((1, 4, 5, 6, 7), ((5, 50), (2, 10), (0, 20), (3, 50))),
            ((0, 2, 5), ((0, 30), (7, 50), (3, 50))),
            ((0, 2, 3, 5, 7), ((0, 50),)),
            (tuple(range(8)), ((0, 50),)),
        ]
        for ring, due in told:
            self.assertEqual(as_one(self.BIDS, ring), due)

    def test_by_the_least_of_those_who_bid(self):
        self.assertEqual(as_one(((6, 3), (4, 2)), (0, 1, 4, 6)), ((4, 3),))
        self.assertEqual(as_one(((4, 2), (6, 3)), (4, 6)), ((4, 3),))

    def test_none_of_them_or_one(self):
        for ring in ((1,), (4, 6), (0,), (5,), (1, 2), (1, 4, 6, 7)):
            self.assertEqual(as_one(self.BIDS, ring), self.BIDS)
        for ring in RINGS:
            self.assertEqual(as_one((), ring), ())
            self.assertEqual(as_one(((3, 5),), ring), ((3, 5),))

    def test_against_the_slow_one(self):
        for bids in list(small_bids())[::9]:
            for ring in RINGS:
                told = as_one(bids, ring)
                self.assertEqual(told, joined(bids, ring), (bids, ring))
                self.assertTrue(are_bids(told))

    def test_refusals(self):
        assert_refuses_each(self, as_one, (self.BIDS, (2, 7)), (NoBids, NoRing))
        for bids in BAD_BIDS:
            assert_refused(self, NoBids, as_one, bids, ())
            assert_refused(self, NoBids, as_one, bids, (0, 1))
        for ring in BAD_RINGS:
            assert_refused(self, NoRing, as_one, self.BIDS, ring)
            assert_refused(self, NoRing, as_one, (), ring)
        for ring in RINGS:
            as_one(self.BIDS, ring)


class SavingOfTest(unittest.TestCase):
    def test_above_0(self):
        self.assertEqual(saving_of(*SAVES, (1, 2)), 5)
        self.assertEqual(saving_of(ONES, (1, 1), ((0, 9), (1, 9)), (0, 1)), 8)

    def test_0(self):
        self.assertEqual(saving_of(ONES, (1, 1), ((0, 4), (1, 9)), (0,)), 0)
        self.assertEqual(saving_of(ONES, (1, 1), ((0, 4), (1, 9)), (1, 7)), 0)
        self.assertEqual(saving_of(ONES, (1, 1), ((0, 4), (1, 9)), (5, 6)), 0)
        self.assertEqual(saving_of(ONES, (1, 1), ((0, 9), (1, 9), (2, 3)), (1, 2)), 0)

    def test_below_0(self):
        self.assertEqual(saving_of(*LOSES, (1, 6)), -1)
        self.assertEqual(saving_of(TWOS, (1, 5), ((6, 3), (2, 5), (7, 9)), (2, 6)), -2)

    def test_none(self):
        told = [((1, 10 ** 6), ((0, 4), (1, 9)), (0, 1)), ((1, 1), (), (0, 1)), ((5, 5), ((0, 4), (1, 3)), (0, 1)),
                ((1, 5), ((0, 9), (1, 9)), (0, 1)), ((2, 7), LOSES[2], (1, 6))]
        for lot, bids, ring in told:
            self.assertIsNone(saving_of(ONES, lot, bids, ring))

    def test_against_the_slow_one_and_at_most_one_rung_below_0(self):
        seen = set()
        for at, (ladder, lot, bids) in enumerate(OFFERS[::3]):
            for ring in RINGS[at % 15::15]:
                saving = saving_of(ladder, lot, bids, ring)
                self.assertEqual(saving, saving_walked(ladder, lot, bids, ring), (ladder, lot, bids, ring))
                seen.add(saving if saving is None else (saving > 0) - (saving < 0))
                if saving is not None and saving < 0:
                    price = price_walked(ladder, lot, bids)
                    self.assertEqual(price - saving, price_behind(ladder, price))
        self.assertEqual(seen, {None, -1, 0, 1})

    def test_far(self):
        bids = tuple((buyer, 10 ** 6) for buyer in range(8))
        told = told_at_once(saving_of, ONES, (1, 1), bids, tuple(range(8)), lines=20000)
        self.assertEqual(told, 999999)

    def test_refusals(self):
        assert_refuses_each(self, saving_of, SAVES + ((1, 2),), (NoLadder, NoLot, NoBids, NoRing))
        for ring in BAD_RINGS:
            assert_refused(self, NoRing, saving_of, *SAVES, ring)
            assert_refused(self, NoRing, saving_of, ONES, (1, 10 ** 6), (), ring)


class IsSavingTest(unittest.TestCase):
    def assert_tells(self, due, offer, thing):
        before = copy.deepcopy(thing)
        self.assertIs(is_saving(*offer, thing), due, (offer, thing))
        self.assertEqual(repr(thing), repr(before))

    def test_right_and_one_more_or_less(self):
        for at, offer in enumerate(OFFERS[::7]):
            for ring in RINGS[at % 31::31]:
                saving = saving_walked(*offer, ring)
                middle = saving or 0
                for number in range(middle - 2, middle + 3):
                    self.assert_tells(number == saving, offer, (ring, number))
                self.assert_tells(False, offer, (ring, None))

    def test_by_hand(self):
        self.assert_tells(True, LOSES, ((1, 6), -1))
        self.assert_tells(True, LOSES, ((1,), 0))
        for number in (-2, 0, 1, None, "-1", (-1,), [-1], HUGE, -HUGE, True, False):
            self.assert_tells(False, LOSES, ((1, 6), number))

    def test_truths(self):
        two = (ONES, (1, 1), ((0, 2), (1, 2)))
        self.assert_tells(True, two, ((0, 1), 1))
        self.assert_tells(False, two, ((0, 1), True))
        self.assert_tells(True, two, ((0,), 0))
        self.assert_tells(False, two, ((0,), False))
        self.assert_tells(False, two, ((False, 1), 1))
        self.assert_tells(False, two, ((0, True), 1))
        self.assert_tells(False, two, ((False,), 0))

    def test_none_for_the_number(self):
        in_both = (ONES, (1, 10 ** 6), ((0, 2), (1, 2)))
        for number in (None, 0, False, 1):
            self.assert_tells(False, in_both, ((0, 1), number))

    def test_a_ring_that_is_none(self):
        for ring in BAD_RINGS:
            for number in (0, 1, None):
                self.assert_tells(False, SAVES, (ring, number))

    def test_of_any_kind(self):
        right = ((1,), 0)
        self.assert_tells(True, SAVES, right)
        things = odd_things() + [list(right), right + (0,), right[:1], (right,), right[::-1], ([1], 0), dict([right]),
                                 (), 0, 1, (1, 0), ((1,), (0,)), ((1,), [0]), (1,), "10"]
        for thing in things:
            self.assert_tells(False, SAVES, thing)

    def test_refusals(self):
        assert_refuses_each(self, is_saving, SAVES + (((1,), 0),), (NoLadder, NoLot, NoBids))
        for thing in (None, (), ((), 0), ((1,), None)):
            assert_refused(self, NoLadder, is_saving, (), (0, 0), None, thing)
            assert_refused(self, NoLot, is_saving, ONES, (0, 0), None, thing)
            assert_refused(self, NoBids, is_saving, ONES, (1, 1), None, thing)


class BestRingTest(unittest.TestCase):
    def test_against_the_slow_one(self):
        for offer in OFFERS[::11]:
            for many in range(1, 9):
                self.assertEqual(best_ring(*offer, many), best_walked(*offer, many), (offer, many))

    def test_the_first_of_those_that_save_alike(self):
        offer = (ONES, (1, 1), ((7, 9), (5, 9), (3, 9), (2, 9)))
        self.assertEqual([best_ring(*offer, many) for many in range(1, 9)],
                         [best_walked(*offer, many) for many in range(1, 5)] + [None] * 4)
        self.assertEqual(best_ring(*offer, 1), (2,))
        self.assertEqual(best_ring(*offer, 4), (2, 3, 5, 7))
        self.assertEqual(best_ring(ONES, (1, 1), ((7, 1), (5, 1), (3, 1), (2, 1)), 2), (2, 3))

    def test_not_the_first_one(self):
        self.assertEqual(best_ring(*SAVES, 2), (1, 2))
        self.assertEqual(best_ring(*SAVES, 3), (0, 1, 2))

    def test_rings_that_sell_nothing_are_left_out(self):
        # The ring of 0 and 1 would have it at 4, below least.
        offer = (ONES, (1, 5), ((0, 9), (1, 9), (2, 3)))
        self.assertIsNone(saving_of(*offer, (0, 1)))
        self.assertEqual(best_ring(*offer, 2), (0, 2))
        self.assertIsNone(best_ring(*offer, 3))

    def test_none(self):
        for many in range(1, 9):
            self.assertIsNone(best_ring(ONES, (1, 1), (), many))
            self.assertIsNone(best_ring(ONES, (1, 10 ** 6), ((0, 9), (1, 9)), many))
            self.assertEqual(best_ring(ONES, (1, 1), ((4, 9),), many), (4,) if many == 1 else None)

    def test_whoever_has_a_bid_counts_though_it_has_no_top(self):
        offer = (ONES, (5, 5), ((0, 9), (1, 2)))
        self.assertEqual(best_ring(*offer, 2), (0, 1))

    def test_far(self):
        bids = tuple((buyer, 10 ** 6) for buyer in range(8))
        self.assertEqual(told_at_once(best_ring, ONES, (1, 1), bids, 8, lines=50000), tuple(range(8)))
        # Of bounds that fall one by one no ring saves so much as those of 0, 1, 2 and another one.
        bids = tuple((buyer, 10 ** 6 - buyer) for buyer in range(8))
        self.assertEqual(told_at_once(best_ring, ONES, (1, 1), bids, 4, lines=500000), (0, 1, 2, 3))

    def test_refusals(self):
        assert_refuses_each(self, best_ring, SAVES + (2,), (NoLadder, NoLot, NoBids, NoNumber))
        numbers, beyond = number_borders(1, 8)
        for many in numbers:
            best_ring(*SAVES, many)
        for many in beyond + (True, "2", (2,), [2], None, HUGE):
            assert_refused(self, NoNumber, best_ring, *SAVES, many)
            assert_refused(self, NoNumber, best_ring, ONES, (1, 1), (), many)


class AllRingsTest(unittest.TestCase):
    def test_what_is_almost_right(self):
        for function, last in ((saving_of, ()), (is_saving, None), (best_ring, 0)):
            for ladder in BAD_LADDERS:
                assert_refused(self, NoLadder, function, ladder, (0, 0), ((8, 1),), last)
            for lot in BAD_LOTS:
                assert_refused(self, NoLot, function, ONES, lot, ((8, 1),), last)
            for bids in BAD_BIDS:
                assert_refused(self, NoBids, function, ONES, (1, 1), bids, last)

    def test_what_was_told_may_be_handed_in_again(self):
        ring = best_ring(*SAVES, 2)
        self.assertIs(is_saving(*SAVES, (ring, saving_of(*SAVES, ring))), True)
        once = as_one(SAVES[2], ring)
        self.assertEqual(as_one(once, ring), once)
        self.assertEqual(best_ring(*SAVES, 2), ring)

    def test_kinds(self):
        self.assertIs(type(best_ring(*SAVES, 2)), tuple)
        self.assertIs(type(saving_of(*SAVES, (1, 2))), int)
        self.assertIs(type(as_one(SAVES[2], (1, 2))), tuple)

    def test_interface(self):
        offer = "ladder lot bids"
        assert_parameters(self, rings, {
            "as_one": "bids ring", "saving_of": offer + " ring", "is_saving": offer + " thing",
            "best_ring": offer + " many"})


if __name__ == "__main__":
    unittest.main()
