"""The walk [3.1], its course [3.2], the chain [3.3], the hammer and to whom a lot falls [3.4]."""

import copy
import itertools
import unittest

from hammersale import walks
from hammersale.bids import tops_of
from hammersale.errors import NoBids, NoBuyers, NoLadder, NoLot, NoRung
from hammersale.ladders import price_at
from hammersale.walks import chain_of, course_of, fallen_to, hammer_of, is_course, rungs_taken, taker_of
from tests.slow_walk import chain_walked, course_walked, small_offers, walked
from tests.test_bids import BAD_BIDS, BAD_LOTS
from tests.test_ladders import BAD as BAD_LADDERS
from tests.things import (HUGE, assert_parameters, assert_refused, assert_refuses_each, number_borders, odd_things,
                          told_at_once)

ONES = ((0, 1),)
FOUR = ((0, 1), (10, 3), (20, 7), (1000, 100))
OFFERS = small_offers()

# From 8 the rungs are 8, 9, 10, 13, 16, 19, 22, 29, so the tops are 2, 4, none, 6.
# Buyers 5 and 3 take the rungs 0 to 3 by turns, 1 takes rung 4, and nobody else reaches rung 5.
HAND = (FOUR, (8, 12), ((5, 10), (3, 18), (7, 7), (1, 25)))

GOOD_GONE = [(), (0,), (7,), (1, 3, 5), tuple(range(8))]
BAD_GONE = [
    (-1,), (8,), (0, 8), (-1, 0), (1, 0), (0, 0), (7, 7), (0, 2, 1), (0, 1, 1), (True,), (False,), (0, True),
    (False, 1), [], [0], [0, 1], (None,), ("0",), ((0,),), ([0],), ({},), (0, None), (0, "1"), (0, (1,)), "", "01",
    {}, {0: 1}, 0, 1, None, (HUGE,), (-HUGE, 0), tuple(range(9)), tuple(range(8)) + (7,), ((),),
]


class AgainstTheSlowWalkTest(unittest.TestCase):
    def test_rungs_taken(self):
        for offer in OFFERS:
            self.assertEqual(rungs_taken(*offer), len(walked(*offer)), offer)

    def test_taker_of(self):
        for offer in OFFERS[::3]:
            takers = [buyer for buyer, price in walked(*offer)]
            told = [taker_of(*offer, rung) for rung in range(len(takers) + 2)]
            self.assertEqual(told, takers + [None, None], offer)
            self.assertIsNone(taker_of(*offer, 10 ** 9), offer)

    def test_course_of(self):
        for offer in OFFERS:
            takers = [buyer for buyer, price in walked(*offer)]
            course = course_of(*offer)
            self.assertEqual(course, course_walked(takers), offer)
            self.assertLessEqual(len(course), len(offer[2]))

    def test_chain_of(self):
        for offer in OFFERS:
            self.assertEqual(chain_of(*offer), chain_walked(walked(*offer)), offer)

    def test_the_offers_have_what_they_are_to_have(self):
        stretches = {len(course_of(*offer)) for offer in OFFERS}
        self.assertGreaterEqual(stretches, {0, 1, 2, 3, 4, 5})
        self.assertEqual({len(bids) for ladder, lot, bids in OFFERS}, set(range(9)))
        self.assertIn(0, {rungs_taken(*offer) for offer in OFFERS if offer[2]})


class RungsTest(unittest.TestCase):
    def test_by_hand(self):
        self.assertEqual(rungs_taken(*HAND), 5)
        self.assertEqual([taker_of(*HAND, rung) for rung in range(8)], [5, 3, 5, 3, 1, None, None, None])

    def test_no_bids_and_one(self):
        self.assertEqual(rungs_taken(FOUR, (8, 8), ()), 0)
        self.assertEqual(rungs_taken(FOUR, (8, 8), ((3, 7),)), 0)
        self.assertEqual(rungs_taken(FOUR, (8, 8), ((3, 8),)), 1)
        self.assertEqual(rungs_taken(FOUR, (8, 8), ((3, 10 ** 6),)), 1)
        self.assertEqual([taker_of(FOUR, (8, 8), ((3, 10 ** 6),), rung) for rung in (0, 1, 2)], [3, None, None])
        self.assertIsNone(taker_of(FOUR, (8, 8), ((3, 7),), 0))
        self.assertIsNone(taker_of(FOUR, (8, 8), (), 0))

    def test_the_elder_of_tops_alike(self):
        # Both reach rung 2; the elder one takes 0 and 2. Both reach rung 1: the younger one takes the last.
        self.assertEqual([taker_of(ONES, (1, 1), ((6, 3), (2, 3)), rung) for rung in range(4)], [6, 2, 6, None])
        self.assertEqual([taker_of(ONES, (1, 1), ((2, 2), (6, 2)), rung) for rung in range(3)], [2, 6, None])

    def test_buyer_0_takes_like_any(self):
        self.assertEqual([taker_of(ONES, (1, 1), ((0, 3), (2, 3)), rung) for rung in range(4)], [0, 2, 0, None])
        self.assertEqual(taker_of(ONES, (1, 1), ((0, 3),), 0), 0)

    def test_borders_of_rungs(self):
        rungs, no_rungs = number_borders(0, 10 ** 9)
        self.assertEqual([taker_of(*HAND, rung) for rung in rungs], [5, None])
        for rung in no_rungs:
            assert_refused(self, NoRung, taker_of, *HAND, rung)
            assert_refused(self, NoRung, taker_of, FOUR, (8, 8), (), rung)


class FarTest(unittest.TestCase):
    EIGHT = tuple((buyer, 10 ** 6) for buyer in (4, 2, 7, 0, 1, 3, 5, 6))
    ROWS = ((0, 300000), (1, 500001), (5, 999), (2, 999999), (3, 10 ** 6), (4, 10 ** 6), (7, 1))

    def test_eight_of_the_greatest_bound(self):
        offer = (ONES, (1, 1), self.EIGHT)
        self.assertEqual(told_at_once(rungs_taken, *offer), 10 ** 6)
        self.assertEqual(told_at_once(course_of, *offer), [(0, 999999, 4, 2)])
        self.assertEqual(told_at_once(chain_of, *offer), [(2, 10 ** 6), (4, 999999)])
        self.assertEqual(told_at_once(hammer_of, *offer), ("sold", 2, 10 ** 6, (4, 999999)))
        self.assertEqual(told_at_once(fallen_to, *offer, (2,)), (4, 999999))
        self.assertIs(told_at_once(is_course, *offer, [(0, 999999, 4, 2)]), True)
        told = [(0, 4), (1, 2), (500000, 4), (999998, 4), (999999, 2), (10 ** 6, None), (10 ** 9, None)]
        for rung, buyer in told:
            self.assertEqual(told_at_once(taker_of, *offer, rung), buyer)

    def test_eight_that_leave_one_by_one(self):
        bids = tuple((buyer, 100000 * (buyer + 2)) for buyer in range(8))
        offer = (((0, 1), (10 ** 5, 1), (500000, 1), (10 ** 6, 1)), (1, 1), bids)
        course = [(0, 199999, 0, 1), (200000, 300000, 2, 1), (300001, 399999, 3, 2), (400000, 500000, 4, 3),
                  (500001, 599999, 5, 4), (600000, 700000, 6, 5), (700001, 799999, 7, 6)]
        self.assertEqual(told_at_once(course_of, *offer), course)
        self.assertEqual(told_at_once(rungs_taken, *offer), 800000)
        chain = [(7, 800000), (6, 799999), (5, 700000), (4, 599999), (3, 500000), (2, 399999), (1, 300000),
                 (0, 199999)]
        self.assertEqual(told_at_once(chain_of, *offer), chain)
        self.assertIsNone(told_at_once(taker_of, *offer, 10 ** 9))

    def test_against_the_slow_walk(self):
        offer = (ONES, (1, 1), self.ROWS)
        rows = walked(*offer)
        takers = [buyer for buyer, price in rows]
        self.assertEqual(told_at_once(course_of, *offer), course_walked(takers))
        self.assertEqual(told_at_once(chain_of, *offer), chain_walked(rows))
        self.assertEqual(told_at_once(rungs_taken, *offer), len(rows))
        for rung in (0, 299999, 300000, 300001, 500000, 500001, 500002, 999998, 999999):
            self.assertEqual(told_at_once(taker_of, *offer, rung), takers[rung])


class CourseTest(unittest.TestCase):
    def test_by_hand(self):
        self.assertEqual(course_of(*HAND), [(0, 3, 5, 3), (4, 4, 1, None)])

    def test_nobody_takes_rung_0(self):
        self.assertEqual(course_of(FOUR, (8, 8), ()), [])
        self.assertEqual(course_of(FOUR, (8, 8), ((3, 7), (4, 1))), [])

    def test_one_alone(self):
        self.assertEqual(course_of(FOUR, (8, 8), ((3, 100),)), [(0, 0, 3, None)])
        self.assertEqual(course_of(FOUR, (8, 8), ((4, 7), (3, 100))), [(0, 0, 3, None)])

    def test_one_left_at_the_end(self):
        self.assertEqual(course_of(ONES, (1, 1), ((0, 2), (1, 1), (2, 3))), [(0, 1, 0, 2)])
        self.assertEqual(course_of(ONES, (1, 1), ((0, 2), (1, 2), (2, 3))), [(0, 1, 0, 1), (2, 2, 2, None)])

    def test_other_is_none_where_first_is_last_alone(self):
        for offer in OFFERS:
            for first, last, one, other in course_of(*offer):
                self.assertEqual(other is None, first == last)
                self.assertNotEqual(one, other)

    def test_kinds(self):
        for offer in OFFERS[::7]:
            course = course_of(*offer)
            self.assertIs(type(course), list)
            for stretch in course:
                self.assertIs(type(stretch), tuple)
                self.assertTrue(all(type(one) is int for one in stretch[:3]))

    def test_the_askers_own(self):
        for tell in (course_of, chain_of):
            told = tell(*HAND)
            before = list(told)
            told.append(5)
            told[0] = None
            self.assertEqual(tell(*HAND), before)
            none = tell(FOUR, (8, 8), ())
            none.append(5)
            self.assertEqual(tell(FOUR, (8, 8), ()), [])


def numbers_changed(course):
    for at, stretch in enumerate(course):
        for place, number in enumerate(stretch):
            others = [0, 7, True, False] if number is None else [number - 1, number + 1, None, str(number), [number]]
            if number in (0, 1):
                others.append(bool(number))
            for other in others:
                row = stretch[:place] + (other,) + stretch[place + 1:]
                yield course[:at] + [row] + course[at + 1:]


def stretches_changed(course):
    for at, (first, last, one, other) in enumerate(course):
        ahead, behind = course[:at], course[at + 1:]
        yield ahead + [(first, last, other, one)] + behind
        yield ahead + behind
        yield ahead + [course[at]] + course[at:]
        yield ahead + [list(course[at])] + behind
        yield ahead + [course[at][:3]] + behind
        yield ahead + [course[at] + (0,)] + behind
        yield ahead + [None] + behind
        for cut in range(first, last):
            pair = (one, other) if (cut - first) % 2 else (other, one)
            left = (first, cut, one, None if cut == first else other)
            right = (cut + 1, last, pair[0], None if cut + 1 == last else pair[1])
            yield ahead + [left, right] + behind
            yield ahead + [(first, cut, one, other), (cut + 1, last) + pair] + behind
        if behind:
            yield ahead + [(first, behind[0][1], one, other)] + behind[1:]
            yield ahead + [behind[0], course[at]] + behind[1:]


def wholes_changed(course):
    many = course[-1][1] + 1 if course else 0
    yield tuple(course)
    yield {at: stretch for at, stretch in enumerate(course)}
    yield repr(course)
    yield [course]
    yield course + [()]
    yield course + [None]
    yield course + [(many, many, 0, None)]
    yield course + [(many, many + 1, 0, 1)]
    if len(course) > 1:
        yield course[::-1]


class IsCourseTest(unittest.TestCase):
    def assert_tells(self, due, offer, thing):
        before = copy.deepcopy(thing)
        self.assertIs(is_course(*offer, thing), due, (offer, thing))
        self.assertEqual(repr(thing), repr(before))

    def test_the_course(self):
        self.assert_tells(True, HAND, [(0, 3, 5, 3), (4, 4, 1, None)])
        for offer in OFFERS:
            self.assert_tells(True, offer, course_walked([buyer for buyer, price in walked(*offer)]))

    def test_the_course_changed(self):
        for offer in OFFERS[::9] + [HAND]:
            course = course_of(*offer)
            changed = itertools.chain(numbers_changed(course), stretches_changed(course), wholes_changed(course))
            for thing in changed:
                self.assert_tells(False, offer, thing)

    def test_truths(self):
        offer = (ONES, (1, 1), ((0, 2), (1, 2)))
        self.assert_tells(True, offer, [(0, 1, 0, 1)])
        for row in itertools.product((0, False), (1, True), (0, False), (1, True)):
            self.assert_tells(not any(type(one) is bool for one in row), offer, [row])
        self.assert_tells(True, (ONES, (1, 1), ((0, 1),)), [(0, 0, 0, None)])
        self.assert_tells(False, (ONES, (1, 1), ((0, 1),)), [(0, 0, 0, False)])
        self.assert_tells(False, (ONES, (1, 1), ((0, 1),)), [(0, 0, 0, 0)])

    def test_the_course_alone_of_all_short_lists(self):
        rows = list(itertools.product((0, 1, 2), (0, 1, 2), (0, 1, 2), (None, 0, 1, 2)))
        lists = [[]] + [[row] for row in rows] + [[row, other] for row in rows for other in rows]
        for bids in (((0, 2), (1, 2), (2, 3)), ((1, 3), (0, 3))):
            offer = (ONES, (1, 1), bids)
            true = [thing for thing in lists if is_course(*offer, thing)]
            self.assertEqual(true, [course_walked([buyer for buyer, price in walked(*offer)])])

    def test_none_and_things_of_any_kind(self):
        for thing in odd_things() + [(), 0, 1, 5, (0, 0, 3, None), [(0, 0, 3, None), (1, 1, 3, None)], HAND]:
            self.assert_tells(False, HAND, thing)
            self.assert_tells(thing == [], (FOUR, (8, 8), ()), thing)
            self.assert_tells(False, (FOUR, (8, 8), ((3, 100),)), thing)


class ChainTest(unittest.TestCase):
    def test_by_hand(self):
        self.assertEqual(chain_of(FOUR, (8, 8), ()), [])
        self.assertEqual(chain_of(FOUR, (8, 8), ((3, 7),)), [])
        self.assertEqual(chain_of(FOUR, (8, 8), ((3, 99),)), [(3, 8)])
        self.assertEqual(chain_of(FOUR, (8, 8), ((3, 99), (0, 13))), [(3, 16), (0, 13)])
        self.assertEqual(chain_of(FOUR, (8, 8), ((0, 13), (3, 99))), [(3, 13), (0, 10)])
        self.assertEqual(chain_of(*HAND), [(1, 16), (3, 13), (5, 10)])

    def test_what_follows_in_the_point(self):
        for ladder, lot, bids in OFFERS:
            chain = chain_of(ladder, lot, bids)
            bounds = dict(bids)
            tops = {buyer: top for (buyer, bound), top in zip(bids, tops_of(ladder, lot, bids)) if top is not None}
            self.assertTrue(all(price <= bounds[buyer] for buyer, price in chain))
            self.assertEqual(bool(chain), bool(tops))
            if chain:
                buyer, price = chain[0]
                self.assertEqual(max(tops.values()), tops[buyer])
                others = [top for other, top in tops.items() if other != buyer]
                self.assertLessEqual(price, price_at(ladder, lot[0], max(others, default=-1) + 1))

    def test_kinds(self):
        for offer in OFFERS[::7]:
            self.assertIs(type(chain_of(*offer)), list)
            self.assertTrue(all(type(row) is tuple for row in chain_of(*offer)))


class HammerTest(unittest.TestCase):
    def test_sold_with_a_next_one(self):
        self.assertEqual(hammer_of(ONES, (1, 1), ((0, 3), (1, 9))), ("sold", 1, 4, (0, 3)))
        self.assertEqual(hammer_of(*HAND), ("sold", 1, 16, (3, 13)))

    def test_sold_without_a_next_one(self):
        self.assertEqual(hammer_of(ONES, (5, 5), ((0, 4), (1, 9))), ("sold", 1, 5, None))

    def test_in(self):
        self.assertEqual(hammer_of(ONES, (5, 6), ((0, 4), (1, 9))), ("in", 5))
        self.assertEqual(hammer_of(ONES, (1, 5), ((0, 3), (1, 9))), ("in", 4))

    def test_in_without_a_price(self):
        self.assertEqual(hammer_of(ONES, (5, 5), ()), ("in", None))
        self.assertEqual(hammer_of(ONES, (5, 10 ** 6), ((0, 4), (1, 1))), ("in", None))

    def test_least_at_the_first_price_and_one_above(self):
        for ladder, (start, least), bids in OFFERS[::2]:
            chain = chain_walked(walked(ladder, (start, least), bids))
            if not chain:
                self.assertEqual(hammer_of(ladder, (start, start), bids), ("in", None))
                continue
            buyer, price = chain[0]
            second = chain[1] if chain[1:] else None
            self.assertEqual(hammer_of(ladder, (start, start), bids), ("sold", buyer, price, second))
            self.assertEqual(hammer_of(ladder, (start, price), bids), ("sold", buyer, price, second))
            self.assertEqual(hammer_of(ladder, (start, price + 1), bids), ("in", price))
            self.assertEqual(hammer_of(ladder, (start, 10 ** 6), bids), ("in", price))

    def test_kinds(self):
        for least in (1, 4, 5):
            self.assertIs(type(hammer_of(ONES, (1, least), ((0, 3), (1, 9)))), tuple)


class FallenTest(unittest.TestCase):
    GONES = [gone for many in range(9) for gone in itertools.combinations(range(8), many)]

    def due(self, chain, least, gone):
        left = [(buyer, price) for buyer, price in chain if buyer not in gone]
        return left[0] if left and left[0][1] >= least else None

    def test_by_hand(self):
        told = [fallen_to(*HAND, gone) for gone in ((), (1,), (3,), (1, 3))]
        self.assertEqual(told, [(1, 16), (3, 13), (1, 16), None])
        bids = ((0, 3), (1, 9))
        told = [((1, 3), (), (1, 4)), ((1, 3), (0,), (1, 4)), ((1, 3), (1,), (0, 3)), ((1, 4), (1,), None),
                ((1, 4), (), (1, 4)), ((1, 5), (), None), ((1, 3), (0, 1), None), ((1, 3), (2, 3, 7), (1, 4)),
                ((1, 1), tuple(range(8)), None)]
        for lot, gone, due in told:
            self.assertEqual(fallen_to(ONES, lot, bids, gone), due)

    def test_gone_of_none_is_the_hammer(self):
        for offer in OFFERS[::3]:
            hammer = hammer_of(*offer)
            self.assertEqual(fallen_to(*offer, ()), hammer[1:3] if hammer[0] == "sold" else None)

    def test_the_first_ones_of_the_chain(self):
        for ladder, lot, bids in OFFERS[::2]:
            chain = chain_walked(walked(ladder, lot, bids))
            for many in range(len(chain) + 1):
                gone = tuple(sorted(buyer for buyer, price in chain[:many]))
                for least in (lot[0], lot[1]):
                    due = self.due(chain, least, gone)
                    self.assertEqual(fallen_to(ladder, (lot[0], least), bids, gone), due)

    def test_any(self):
        offers = [offer for offer in OFFERS if len(chain_of(*offer)) > 4][::40] + [HAND]
        for ladder, lot, bids in offers:
            chain = chain_walked(walked(ladder, lot, bids))
            for gone, least in itertools.product(self.GONES, (lot[0], chain[1][1], chain[1][1] + 1)):
                due = self.due(chain, least, gone)
                self.assertEqual(fallen_to(ladder, (lot[0], least), bids, gone), due)

    def test_refuses_gone(self):
        for gone in GOOD_GONE:
            fallen_to(*HAND, gone)
        for gone in BAD_GONE:
            assert_refused(self, NoBuyers, fallen_to, *HAND, gone)
            assert_refused(self, NoBuyers, fallen_to, FOUR, (8, 8), (), gone)


class RefusalsTest(unittest.TestCase):
    DUES = (NoLadder, NoLot, NoBids)

    def test_each_place(self):
        for function in (rungs_taken, course_of, chain_of, hammer_of):
            assert_refuses_each(self, function, HAND, self.DUES)
        assert_refuses_each(self, taker_of, HAND + (3,), self.DUES + (NoRung,))
        assert_refuses_each(self, is_course, HAND + ([],), self.DUES)
        assert_refuses_each(self, fallen_to, HAND + ((),), self.DUES + (NoBuyers,))

    def test_what_is_almost_right(self):
        more = {taker_of: (-1,), is_course: (None,), fallen_to: ((1, 0),)}
        for function in (rungs_taken, taker_of, course_of, is_course, chain_of, hammer_of, fallen_to):
            behind = more.get(function, ())
            for ladder in BAD_LADDERS:
                assert_refused(self, NoLadder, function, ladder, (0, 0), ((8, 1),), *behind)
            for lot in BAD_LOTS:
                assert_refused(self, NoLot, function, FOUR, lot, ((8, 1),), *behind)
            for bids in BAD_BIDS:
                assert_refused(self, NoBids, function, FOUR, (8, 19), bids, *behind)

    def test_what_was_told_is_refused_where_it_is_none(self):
        assert_refused(self, NoBids, rungs_taken, FOUR, (8, 19), chain_of(*HAND))
        assert_refused(self, NoBuyers, fallen_to, *HAND, course_of(*HAND))
        assert_refused(self, NoLot, hammer_of, FOUR, hammer_of(*HAND), HAND[2])
        # Of tops 4, 3, 2 buyer 1 takes rungs 0, 2, 4 and buyer 3 those between.
        self.assertEqual(chain_of(FOUR, (8, 19), tuple(chain_of(*HAND))), [(1, 16), (3, 13)])

    def test_interface(self):
        offer = "ladder lot bids"
        assert_parameters(self, walks, {
            "rungs_taken": offer, "taker_of": offer + " rung", "course_of": offer, "is_course": offer + " thing",
            "chain_of": offer, "hammer_of": offer, "fallen_to": offer + " gone"})


if __name__ == "__main__":
    unittest.main()
