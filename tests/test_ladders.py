"""Ladders [1.1], rungs [1.2], and what holds for all [0.2 to 0.5]."""

import itertools
import unittest

from hammersale import ladders
from hammersale.errors import NoLadder, NoPrice, NoRung
from hammersale.ladders import is_ladder, last_rung, price_at, price_behind
from tests.things import (HUGE, assert_looker, assert_parameters, assert_refused, assert_refuses_odd, number_borders,
                          told_at_once)

FOUR = ((0, 1), (10, 3), (20, 7), (1000, 100))

GOOD = [
    ((0, 1),),
    ((0, 10 ** 5),),
    ((0, 5), (1, 5)),
    ((0, 5), (10 ** 6, 1)),
    ((0, 10 ** 5), (10 ** 6, 10 ** 5)),
    ((0, 9), (50, 3), (51, 4)),
    FOUR,
    ((0, 1), (1, 1), (2, 1), (3, 1)),
    ((0, 1), (999997, 2), (999999, 3), (10 ** 6, 4)),
]

BAD = [
    (),
    ((-1, 1),), ((1, 1),), ((0, 0),), ((0, -1),), ((0, 10 ** 5 + 1),),
    ((-1, 1), (0, 1)), ((1, 1), (2, 1)),
    ((0, 1), (10 ** 6 + 1, 1)), ((0, 1), (5, 0)), ((0, 1), (5, 10 ** 5 + 1)), ((0, 1), (-1, 1)),
    ((False, 1),), ((0, True),), ((0, 1), (True, 1)), ((0, 1), (5, True)),
    (0, 1), [(0, 1)], ([0, 1],), ((0, 1), [5, 1]), [(0, 1), (5, 1)],
    ((0,),), ((0, 1, 1),), ((),), ((0, 1), (5,)), ((0, 1), (5, 1, 1)), ((0, 1), ()),
    ((0, 1), (0, 1)), ((0, 1), (0, 2)), ((0, 1), (5, 1), (5, 1)), ((0, 1), (5, 1), (5, 2)),
    ((5, 1), (0, 1)), ((0, 1), (6, 1), (5, 1)), ((0, 1), (5, 1), (7, 1), (6, 1)), ((0, 1), (5, 1), (0, 1)),
    ((0, 1), (1, 1), (2, 1), (3, 1), (4, 1)),
    ((None, 1),), ((0, None),), (("0", "1"),), (("0", 1),), ((0, "1"),), (([], 1),), ((0, {}),), (((0,), 1),),
    ((0, 1), None), ((0, 1), "51"), ((0, 1), {5: 1, 1: 5}), ((0, 1), 5), "01", {0: 1}, {(0, 1): (5, 1)},
    ((0, HUGE),), ((0, 1), (HUGE, 1)), ((0, 1), (5, -HUGE)), ((0, 1), (None, 1)), ((0, 1), ([], 1)),
]

SHORT = [
    tuple(zip(floors, steps))
    for floors in ((0,), (0, 5), (0, 1, 2), (0, 3, 12), (0, 6, 7, 20), (0, 1, 8, 9))
    for steps in itertools.product((1, 2, 3, 7), repeat=len(floors))
]


def rungs_one_by_one(ladder, start, many):
    rungs = [start]
    while len(rungs) < many:
        rungs.append(price_behind(ladder, rungs[-1]))
    return rungs


class IsLadderTest(unittest.TestCase):
    def test_tells_it_of_anything(self):
        assert_looker(self, is_ladder, GOOD, BAD)

    def test_the_same_is_told_again(self):
        for thing in GOOD + BAD:
            self.assertIs(is_ladder(thing), is_ladder(thing))

    def test_interface(self):
        assert_parameters(self, ladders, {
            "is_ladder": "thing", "price_behind": "ladder price", "price_at": "ladder start rung",
            "last_rung": "ladder start bound"})


class PriceBehindTest(unittest.TestCase):
    def test_below_at_and_behind_each_floor(self):
        told = [(0, 1), (1, 2), (9, 10), (10, 13), (11, 14), (19, 22), (20, 27), (21, 28), (999, 1006), (1000, 1100),
                (1001, 1101)]
        for price, behind in told:
            self.assertEqual(price_behind(FOUR, price), behind)

    def test_floors_at_the_borders(self):
        ladder = ((0, 10 ** 5), (1, 1), (10 ** 6, 7))
        told = [(0, 10 ** 5), (1, 2), (999999, 10 ** 6), (10 ** 6, 1000007), (1000001, 1000008)]
        for price, behind in told:
            self.assertEqual(price_behind(ladder, price), behind)

    def test_far(self):
        for ladder in GOOD:
            self.assertEqual(price_behind(ladder, 10 ** 20), 10 ** 20 + ladder[-1][1])
            self.assertEqual(price_behind(ladder, 0), ladder[0][1])

    def test_refuses_what_is_no_ladder(self):
        assert_refuses_odd(self, NoLadder, price_behind, (FOUR, 5), 0)
        for ladder in BAD:
            assert_refused(self, NoLadder, price_behind, ladder, 5)
            assert_refused(self, NoLadder, price_behind, ladder, -1)

    def test_refuses_what_is_no_price(self):
        assert_refuses_odd(self, NoPrice, price_behind, (FOUR, 5), 1)
        borders, beyond = number_borders(0, 10 ** 20)
        for price in borders:
            price_behind(FOUR, price)
        for price in beyond:
            assert_refused(self, NoPrice, price_behind, FOUR, price)


class PriceAtTest(unittest.TestCase):
    def test_each_rung_one_by_one(self):
        for ladder in SHORT:
            for start in range(1, 24):
                rungs = rungs_one_by_one(ladder, start, 25)
                self.assertEqual([price_at(ladder, start, rung) for rung in range(25)], rungs, (ladder, start))

    def test_by_hand(self):
        told = [8, 9, 10, 13, 16, 19, 22, 29]
        self.assertEqual([price_at(FOUR, 8, rung) for rung in range(8)], told)

    def test_a_step_goes_over_several_floors(self):
        ladder = ((0, 10 ** 5), (5, 1), (10, 2), (20, 3))
        self.assertEqual([price_at(ladder, 4, rung) for rung in range(3)], [4, 100004, 100007])

    def test_far(self):
        self.assertEqual(told_at_once(price_at, ((0, 1),), 1, 10 ** 9), 10 ** 9 + 1)
        self.assertEqual(told_at_once(price_at, ((0, 10 ** 5),), 10 ** 6, 10 ** 9), 10 ** 14 + 10 ** 6)
        ladder = ((0, 1), (10 ** 6, 10 ** 5))
        self.assertEqual(told_at_once(price_at, ladder, 1, 999998), 999999)
        self.assertEqual(told_at_once(price_at, ladder, 1, 999999), 10 ** 6)
        self.assertEqual(told_at_once(price_at, ladder, 1, 10 ** 6), 1100000)
        self.assertEqual(told_at_once(price_at, ladder, 1, 10 ** 9), 10 ** 6 + (10 ** 9 - 999999) * 10 ** 5)

    def test_far_by_four_floors(self):
        ladder = ((0, 1), (300000, 2), (600001, 3), (10 ** 6, 1))
        # Rung 299999 is 300000; 150001 steps of 2 go to 600002; 133333 of 3 to 1000001; the rest is by 1.
        told = [(299999, 300000), (300000, 300002), (450000, 600002), (450001, 600005), (583333, 1000001),
                (583334, 1000002), (10 ** 9, 1000416668)]
        for rung, price in told:
            self.assertEqual(told_at_once(price_at, ladder, 1, rung), price)

    def test_refusals(self):
        good = (FOUR, 5, 3)
        for at, due in enumerate((NoLadder, NoPrice, NoRung)):
            assert_refuses_odd(self, due, price_at, good, at)
        for ladder in BAD:
            assert_refused(self, NoLadder, price_at, ladder, 0, -1)

    def test_borders(self):
        starts, no_starts = number_borders(1, 10 ** 6)
        rungs, no_rungs = number_borders(0, 10 ** 9)
        for start, rung in itertools.product(starts, rungs):
            price_at(FOUR, start, rung)
        for start, rung in itertools.product(no_starts, rungs + no_rungs):
            assert_refused(self, NoPrice, price_at, FOUR, start, rung)
        for start, rung in itertools.product(starts, no_rungs):
            assert_refused(self, NoRung, price_at, FOUR, start, rung)


class LastRungTest(unittest.TestCase):
    def test_each_bound_one_by_one(self):
        for ladder in SHORT:
            for start in range(1, 24):
                rungs = rungs_one_by_one(ladder, start, 40)
                for bound in range(1, 41):
                    below = [rung for rung, price in enumerate(rungs) if price <= bound]
                    due = below[-1] if below else None
                    self.assertEqual(last_rung(ladder, start, bound), due, (ladder, start, bound))

    def test_by_hand(self):
        told = [(7, None), (8, 0), (9, 1), (10, 2), (12, 2), (13, 3), (19, 5), (21, 5), (22, 6), (28, 6), (29, 7)]
        for bound, rung in told:
            self.assertEqual(last_rung(FOUR, 8, bound), rung)

    def test_none_where_start_is_greater(self):
        for start, bound in ((2, 1), (10 ** 6, 1), (10 ** 6, 999999)):
            self.assertIsNone(last_rung(FOUR, start, bound))

    def test_far(self):
        told = [(((0, 1),), 1, 999999), (((0, 10 ** 5),), 1, 9), (((0, 10 ** 5),), 10 ** 5, 9),
                (((0, 10 ** 5),), 10 ** 6, 0), (((0, 10 ** 5), (900001, 1)), 1, 9 + 99999),
                (((0, 1), (10 ** 6, 10 ** 5)), 1, 999999), (((0, 1), (900000, 10 ** 5)), 1, 900000)]
        for ladder, start, rung in told:
            self.assertEqual(told_at_once(last_rung, ladder, start, 10 ** 6), rung)

    def test_far_as_price_at_tells_it(self):
        for ladder in GOOD:
            for start, bound in itertools.product((1, 999, 777777, 10 ** 6), (777777, 777778, 999999, 10 ** 6)):
                if start <= bound:
                    price = price_at(ladder, start, last_rung(ladder, start, bound))
                    self.assertLessEqual(price, bound)
                    self.assertGreater(price_behind(ladder, price), bound)

    def test_refusals(self):
        good = (FOUR, 5, 30)
        for at, due in enumerate((NoLadder, NoPrice, NoPrice)):
            assert_refuses_odd(self, due, last_rung, good, at)
        for ladder in BAD:
            assert_refused(self, NoLadder, last_rung, ladder, 0, 0)

    def test_borders(self):
        numbers, beyond = number_borders(1, 10 ** 6)
        for start, bound in itertools.product(numbers, numbers):
            last_rung(FOUR, start, bound)
        for number, other in itertools.product(numbers, beyond):
            assert_refused(self, NoPrice, last_rung, FOUR, number, other)
            assert_refused(self, NoPrice, last_rung, FOUR, other, number)


if __name__ == "__main__":
    unittest.main()
