"""Lots and bids [2.1], tops [2.2]."""

import unittest

from hammersale import bids as module
from hammersale.bids import are_bids, is_lot, tops_of
from hammersale.errors import NoBids, NoLadder, NoLot
from hammersale.ladders import last_rung
from tests.things import HUGE, assert_looker, assert_parameters, assert_refused, assert_refuses_odd, told_at_once

LADDER = ((0, 1), (10, 3), (20, 7), (1000, 100))
EIGHT = tuple((buyer, 10 ** 6) for buyer in range(8))

GOOD_LOTS = [(1, 1), (1, 10 ** 6), (10 ** 6, 10 ** 6), (5, 5), (5, 6), (999999, 10 ** 6)]
BAD_LOTS = [
    (0, 1), (0, 0), (-1, 5), (1, 0), (5, 4), (10 ** 6, 999999), (1, 10 ** 6 + 1), (10 ** 6 + 1, 10 ** 6 + 1),
    (True, 1), (1, True), (True, True), (False, 5), (True, 5), [1, 1], [5, 6], (5, [6]), ([5], 6),
    (), (5,), (5, 6, 7), ((5, 6),), (None, 6), (5, None), ("5", "6"), ("5", 6), (5, "6"), ({}, 6), (5, {}),
    ((5,), (6,)), (HUGE, HUGE), (5, HUGE), (-HUGE, 5), "56", {5: 6, 6: 5}, 5,
]

GOOD_BIDS = [EIGHT[:many] for many in range(9)] + [
    tuple(reversed(EIGHT)), ((0, 1),), ((7, 1),), ((7, 10 ** 6), (0, 1)), ((3, 5), (2, 5), (1, 5)),
]
BAD_BIDS = [
    ((-1, 5),), ((8, 5),), ((0, 0),), ((0, 10 ** 6 + 1),), ((0, -1),),
    ((0, 5), (-1, 5)), ((0, 5), (8, 5)), ((0, 5), (1, 0)), ((0, 5), (1, 10 ** 6 + 1)),
    ((True, 5),), ((False, 5),), ((0, True),), ((0, 5), (True, 5)), ((0, 5), (1, True)),
    [], [(0, 5)], ([0, 5],), ((0, 5), [1, 5]), [(0, 5), (1, 5)],
    ((0,),), ((0, 5, 5),), ((),), ((0, 5), (1,)), ((0, 5), (1, 5, 5)), ((0, 5), ()), (0, 5),
    ((0, 5), (0, 5)), ((0, 5), (0, 6)), ((0, 5), (1, 5), (0, 7)), EIGHT[:7] + ((0, 5),),
    EIGHT + ((8, 5),), EIGHT + ((0, 5),), EIGHT + EIGHT[:1], EIGHT + EIGHT,
    ((None, 5),), ((0, None),), (("0", "5"),), (("0", 5),), ((0, "5"),), (([], 5),), ((0, {}),), (((0,), 5),),
    ((0, 5), None), ((0, 5), "15"), ((0, 5), {1: 5, 5: 1}), ((0, 5), 1), "05", {0: 5}, {(0, 5): (1, 5)}, None, 0,
    ((0, HUGE),), ((HUGE, 5),), ((0, -HUGE),), ((-HUGE, 5),), ((0, 5), ([], 5)), ((0, 5), ({}, 5)),
]


class LookersTest(unittest.TestCase):
    def test_is_lot(self):
        assert_looker(self, is_lot, GOOD_LOTS, BAD_LOTS + [()])

    def test_are_bids(self):
        assert_looker(self, are_bids, GOOD_BIDS, BAD_BIDS)

    def test_the_same_is_told_again(self):
        for thing in GOOD_LOTS + BAD_LOTS + GOOD_BIDS + BAD_BIDS:
            self.assertIs(is_lot(thing), is_lot(thing))
            self.assertIs(are_bids(thing), are_bids(thing))

    def test_interface(self):
        assert_parameters(self, module, {"is_lot": "thing", "are_bids": "thing", "tops_of": "ladder lot bids"})


class TopsOfTest(unittest.TestCase):
    def test_below_the_start_at_it_at_a_rung_and_one_less(self):
        # From 8 the rungs are 8, 9, 10, 13, 16, 19, 22, 29.
        bids = ((3, 7), (0, 8), (7, 12), (1, 13), (2, 28), (6, 29), (4, 1), (5, 14))
        self.assertEqual(tops_of(LADDER, (8, 20), bids), [None, 0, 2, 3, 6, 7, None, 3])

    def test_no_bids(self):
        self.assertEqual(tops_of(LADDER, (8, 20), ()), [])

    def test_the_order_is_that_of_the_bids(self):
        self.assertEqual(tops_of(LADDER, (8, 8), ((5, 13), (0, 9), (3, 10))), [3, 1, 2])
        self.assertEqual(tops_of(LADDER, (8, 8), ((3, 10), (5, 13), (0, 9))), [2, 3, 1])

    def test_least_does_not_matter(self):
        bids = ((3, 7), (0, 8), (7, 12))
        self.assertEqual(tops_of(LADDER, (8, 8), bids), tops_of(LADDER, (8, 10 ** 6), bids))

    def test_each_is_the_last_rung(self):
        for start in (1, 9, 10, 21, 999, 10 ** 6):
            bounds = [1, start, 10, 11, 20, 999, 1000, 10 ** 6]
            due = [last_rung(LADDER, start, bound) for bound in bounds]
            self.assertEqual(tops_of(LADDER, (start, 10 ** 6), tuple(enumerate(bounds))), due)

    def test_far(self):
        self.assertEqual(told_at_once(tops_of, ((0, 1),), (1, 1), EIGHT), [999999] * 8)
        self.assertEqual(told_at_once(tops_of, ((0, 10 ** 5),), (1, 1), EIGHT), [9] * 8)

    def test_what_is_told_is_the_askers_own(self):
        bids = ((3, 7), (0, 8), (7, 12))
        told = tops_of(LADDER, (8, 20), bids)
        self.assertIs(type(told), list)
        told[0] = 99
        told.append(5)
        self.assertEqual(tops_of(LADDER, (8, 20), bids), [None, 0, 2])
        self.assertEqual(bids, ((3, 7), (0, 8), (7, 12)))
        no_bids = tops_of(LADDER, (8, 20), ())
        no_bids.append(5)
        self.assertEqual(tops_of(LADDER, (8, 20), ()), [])

    def test_what_was_told_may_be_handed_in_again(self):
        told = tops_of(LADDER, (8, 20), EIGHT)
        assert_refused(self, NoLadder, tops_of, told, (8, 20), EIGHT)
        assert_refused(self, NoLot, tops_of, LADDER, told, EIGHT)
        assert_refused(self, NoBids, tops_of, LADDER, (8, 20), told)

    def test_refuses_odd_things(self):
        good = (LADDER, (8, 20), ((0, 9),))
        for at, due in enumerate((NoLadder, NoLot, NoBids)):
            assert_refuses_odd(self, due, tops_of, good, at)

    def test_refuses_ladders_ahead_of_all_else(self):
        for ladder in ((), ((1, 1),), ((0, 0),), ((0, 1), (0, 1)), ((0, 10 ** 5 + 1),)):
            for lot in ((8, 20), (8, 7)):
                for bids in ((), ((8, 5),)):
                    assert_refused(self, NoLadder, tops_of, ladder, lot, bids)

    def test_refuses_lots(self):
        for lot in GOOD_LOTS:
            tops_of(LADDER, lot, EIGHT)
        for lot in BAD_LOTS:
            assert_refused(self, NoLot, tops_of, LADDER, lot, EIGHT)
            assert_refused(self, NoLot, tops_of, LADDER, lot, ((8, 5),))

    def test_refuses_bids(self):
        for bids in GOOD_BIDS:
            tops_of(LADDER, (8, 20), bids)
        for bids in BAD_BIDS:
            assert_refused(self, NoBids, tops_of, LADDER, (8, 20), bids)


if __name__ == "__main__":
    unittest.main()
