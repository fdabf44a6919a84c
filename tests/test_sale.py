"""Deeds of a sale [6.1], its bids [6.2], who has a lot and who loses by it [6.3], money [6.4], and the rest [6.5]."""

import inspect
import itertools
import unittest

from hammersale.bids import are_bids
from hammersale.errors import (NoBid, NoBuyer, NoHour, NoLadder, NoLot, NoParts, NoPrice, NoSeller, NoTerms, NoUndo,
                               SaleError, There, TooMany)
from hammersale.sale import Sale
from tests.slow_sale import all_told
from tests.test_bids import BAD_LOTS, GOOD_LOTS
from tests.test_ladders import BAD as BAD_LADDERS
from tests.test_ladders import GOOD as GOOD_LADDERS
from tests.test_money import BAD_PARTS, BAD_TERMS, GOOD_PARTS, GOOD_TERMS
from tests.things import assert_refused, assert_refuses_each, number_borders, odd_things, told_at_once

ONES = ((0, 1),)
TENS = ((0, 10),)
TERMS = (10, 20)
PARTS = ((0, 1), (3, 2))
LISTED = {
    "enter": "start least parts", "bid": "lot buyer hour bound", "strike": "lot buyer", "give_back": "lot buyer",
    "keep": "lot buyer", "resale": "lot later", "unite": "one other", "pay": "buyer amount", "undo": "", "twin": "",
    "bids_of": "lot", "holder": "lot", "losses": "lot", "money": "lot", "owes": "buyer", "gets": "seller",
    "house": "", "lots": "", "one_with": "buyer",
}


def sale_of(*lots, ladder=TENS, terms=TERMS, parts=PARTS):
    sale = Sale(ladder, terms)
    for start, least in lots:
        sale.enter(start, least, parts)
    return sale


def three_bids(lots=1):
    """Lots from 10 on, least 20, by tens; 2 bids up to 60, 4 up to 50, 6 up to 30.

    2 takes 10, 30 and 50, 4 takes 20, 40 and 60 would be beyond it: so the chain is (2, 50), (4, 40), and 6, behind
    both in time, takes nothing.
    """
    sale = sale_of(*[(10, 20)] * lots)
    for lot in range(lots):
        sale.bid(lot, 2, 0, 60)
        sale.bid(lot, 4, 1, 50)
        sale.bid(lot, 6, 2, 30)
    return sale


def long_chain():
    """A lot from 10 on, least 30, by tens: 1, 3, 5, 3, 5, 7 take the rungs.

    So the chain is (7, 60), (5, 50), (3, 40), (1, 10).
    """
    sale = sale_of((10, 30))
    for hour, (buyer, bound) in enumerate(((1, 20), (3, 40), (5, 50), (7, 90))):
        sale.bid(0, buyer, hour, bound)
    return sale


def kept_as_it_was(case, sale, due, function, *handed):
    """Refused with due, and all that the sale tells, what can be undone too, is as it was."""
    before = all_told(sale)
    deeds = deeds_of(sale)
    assert_refused(case, due, function, *handed)
    case.assertEqual(all_told(sale), before)
    case.assertEqual(deeds_of(sale), deeds)


def deeds_of(sale):
    """How many deeds can be undone."""
    other = sale.twin()
    for many in itertools.count():
        try:
            other.undo()
        except NoUndo:
            return many


class InterfaceTest(unittest.TestCase):
    def test_each_method_is_defined_in_the_class_itself(self):
        for name, handed in LISTED.items():
            self.assertIn(name, vars(Sale))
            parameters = list(inspect.signature(vars(Sale)[name]).parameters)
            self.assertEqual(parameters[1:], handed.split(), name)
        self.assertEqual(list(inspect.signature(Sale).parameters), ["ladder", "terms"])

    def test_kinds(self):
        sale = three_bids(2)
        sale.give_back(0, 2)
        self.assertIs(type(sale.enter(5, 5, PARTS)), int)
        self.assertIs(type(sale.bids_of(0)), tuple)
        self.assertIs(type(sale.holder(0)), tuple)
        self.assertIs(type(sale.losses(0)), list)
        self.assertEqual([type(one) for one in sale.money(0)], [list, int, int])
        self.assertIs(type(sale.money(0)), tuple)
        for told in (sale.owes(0), sale.gets(0), sale.house(), sale.lots()):
            self.assertIs(type(told), int)
        self.assertIs(type(sale.one_with(0)), list)
        self.assertIs(type(sale.twin()), Sale)

    def test_all_but_enter_tell_none(self):
        sale = three_bids(2)
        told = [sale.bid(0, 0, 0, 5), sale.strike(0, 0), sale.give_back(0, 2), sale.keep(0, 2), sale.resale(0, 1),
                sale.unite(0, 1), sale.pay(0, 5), sale.undo()]
        self.assertEqual(told, [None] * 8)


class SaleItselfTest(unittest.TestCase):
    def test_ladders_and_terms(self):
        for ladder, terms in itertools.product(GOOD_LADDERS, GOOD_TERMS):
            self.assertEqual(Sale(ladder, terms).lots(), 0)
        assert_refuses_each(self, Sale, (TENS, TERMS), (NoLadder, NoTerms))
        for ladder in BAD_LADDERS:
            assert_refused(self, NoLadder, Sale, ladder, TERMS)
            assert_refused(self, NoLadder, Sale, ladder, None)
        for terms in BAD_TERMS:
            assert_refused(self, NoTerms, Sale, TENS, terms)

    def test_at_first(self):
        sale = Sale(TENS, TERMS)
        self.assertEqual(all_told(sale), {
            "lots": 0, "each lot": [], "owes": [0] * 8, "one_with": [[buyer] for buyer in range(8)], "gets": [0] * 8,
            "house": 0})

    def test_the_ladder_and_the_terms_are_the_sales(self):
        for ladder, chain in ((ONES, [(0, 11), (1, 10)]), (TENS, [(0, 5)]), (((0, 1), (6, 3)), [(0, 9), (1, 6)])):
            sale = sale_of((5, 5), ladder=ladder)
            sale.bid(0, 0, 0, 20)
            sale.bid(0, 1, 1, 10)
            self.assertEqual(sale.holder(0), sale.chain(0)[0])
            self.assertEqual(sale.chain(0), chain)
        for terms, money in (((0, 0), ([(0, 10)], 10, 0)), ((50, 50), ([(0, 15)], 5, 10))):
            sale = sale_of((10, 10), terms=terms)
            sale.bid(0, 0, 0, 10)
            self.assertEqual(sale.money(0), money)


class EnterTest(unittest.TestCase):
    def test_numbered_as_they_come(self):
        sale = Sale(TENS, TERMS)
        for many in range(6):
            self.assertEqual(sale.lots(), many)
            self.assertEqual(sale.enter(5 + many, 10, PARTS), many)
            self.assertEqual(sale.bids_of(many), ())
            self.assertIsNone(sale.holder(many))
            self.assertEqual(sale.losses(many), [])
            self.assertEqual(sale.money(many), ([], 0, 0))
        self.assertEqual(sale.lots(), 6)

    def test_too_many_with_its_fields(self):
        sale = sale_of(*[(5, 5)] * 6)
        for turn in range(2):
            with self.assertRaises(TooMany) as caught:
                sale.enter(5, 5, PARTS)
            self.assertEqual((caught.exception.many, caught.exception.most), (7, 6))
        kept_as_it_was(self, sale, TooMany, sale.enter, 5, 5, PARTS)
        sale.undo()
        self.assertEqual(sale.enter(5, 5, PARTS), 5)

    def test_too_many_comes_behind_all_else(self):
        sale = sale_of(*[(5, 5)] * 6)
        for handed, due in (((0, 5, PARTS), NoLot), ((5, 4, PARTS), NoLot), ((5, None, ()), NoLot),
                            (([], 5, None), NoLot), ((5, 5, ()), NoParts), ((5, 5, None), NoParts)):
            kept_as_it_was(self, sale, due, sale.enter, *handed)

    def test_refusals(self):
        sale = sale_of((10, 20))
        for start, least in [lot for lot in BAD_LOTS if type(lot) is tuple and len(lot) == 2]:
            assert_refused(self, NoLot, sale.enter, start, least, PARTS)
            assert_refused(self, NoLot, sale.enter, start, least, None)
        for thing in odd_things():
            assert_refused(self, NoLot, sale.enter, thing, 10, PARTS)
            assert_refused(self, NoLot, sale.enter, 10, thing, PARTS)
            assert_refused(self, NoLot, sale.enter, thing, thing, thing)
            assert_refused(self, NoParts, sale.enter, 10, 20, thing)
        for parts in BAD_PARTS:
            assert_refused(self, NoParts, sale.enter, 10, 20, parts)
        self.assertEqual((sale.lots(), deeds_of(sale)), (1, 1))

    def test_what_is_one(self):
        for (start, least), parts in itertools.product(GOOD_LOTS, GOOD_PARTS):
            self.assertEqual(Sale(TENS, TERMS).enter(start, least, parts), 0)


class BidTest(unittest.TestCase):
    PAPERS = ((4, 7, 50), (2, 3, 60), (6, 999, 5), (0, 3, 70), (5, 0, 10 ** 6), (1, 8, 1))
    DUE = ((5, 10 ** 6), (0, 70), (2, 60), (4, 50), (1, 1), (6, 5))

    def test_in_whatever_order_they_are_told(self):
        for order in itertools.permutations(self.PAPERS):
            sale = sale_of((10, 20))
            for buyer, hour, bound in order:
                sale.bid(0, buyer, hour, bound)
            self.assertEqual(sale.bids_of(0), self.DUE)

    def test_those_of_one_hour_by_their_buyers(self):
        for order in itertools.permutations(range(4)):
            sale = sale_of((10, 20))
            for buyer in order:
                sale.bid(0, buyer, 5, 40 - buyer)
            self.assertEqual(sale.bids_of(0), ((0, 40), (1, 39), (2, 38), (3, 37)))

    def test_a_paper_that_comes_late_has_the_lot(self):
        sale = sale_of((10, 20))
        sale.bid(0, 4, 5, 60)
        sale.bid(0, 3, 6, 60)
        self.assertEqual(sale.holder(0), (3, 60))
        sale.bid(0, 7, 4, 60)
        self.assertEqual(sale.bids_of(0), ((7, 60), (4, 60), (3, 60)))
        self.assertEqual(sale.holder(0), (4, 60))

    def test_in_place_of_an_elder_one(self):
        sale = sale_of((10, 20), (10, 20))
        sale.bid(0, 4, 5, 60)
        sale.bid(0, 3, 6, 40)
        sale.bid(1, 4, 5, 60)
        sale.bid(0, 4, 7, 30)
        self.assertEqual(sale.bids_of(0), ((3, 40), (4, 30)))
        sale.bid(0, 4, 0, 20)
        self.assertEqual(sale.bids_of(0), ((4, 20), (3, 40)))
        sale.bid(0, 4, 0, 20)
        self.assertEqual(sale.bids_of(0), ((4, 20), (3, 40)))
        self.assertEqual(sale.bids_of(1), ((4, 60),))

    def test_each_lot_has_its_own(self):
        sale = sale_of((10, 20), (10, 20), (10, 20))
        sale.bid(1, 4, 5, 60)
        self.assertEqual([sale.bids_of(lot) for lot in range(3)], [(), ((4, 60),), ()])

    def test_refusals(self):
        sale = three_bids(2)
        assert_refuses_each(self, sale.bid, (1, 2, 0, 60), (NoLot, NoBuyer, NoHour, NoPrice))
        for at, low, high, due in ((0, 0, 1, NoLot), (1, 0, 7, NoBuyer), (2, 0, 999, NoHour),
                                   (3, 1, 10 ** 6, NoPrice)):
            good, bad = number_borders(low, high)
            for number in good + bad:
                handed = [1, 2, 0, 60]
                handed[at] = number
                if number in good:
                    sale.bid(*handed)
                else:
                    kept_as_it_was(self, sale, due, sale.bid, *handed)
        assert_refused(self, NoLot, Sale(TENS, TERMS).bid, 0, 0, 0, 5)


class StrikeTest(unittest.TestCase):
    def test_that_bid_is_out(self):
        sale = three_bids(2)
        sale.strike(0, 4)
        self.assertEqual(sale.bids_of(0), ((2, 60), (6, 30)))
        self.assertEqual(sale.bids_of(1), ((2, 60), (4, 50), (6, 30)))
        self.assertEqual(sale.holder(0), (2, 30))
        kept_as_it_was(self, sale, NoBid, sale.strike, 0, 4)
        sale.bid(0, 4, 9, 15)
        sale.strike(0, 4)
        sale.strike(0, 2)
        sale.strike(0, 6)
        self.assertEqual(sale.bids_of(0), ())

    def test_nothing_to_strike(self):
        sale = three_bids(2)
        for buyer in (0, 1, 3, 5, 7):
            kept_as_it_was(self, sale, NoBid, sale.strike, 0, buyer)
        sale.unite(2, 3)
        kept_as_it_was(self, sale, NoBid, sale.strike, 0, 3)
        sale.strike(0, 2)
        self.assertEqual(sale.bids_of(0), ((4, 50), (6, 30)))

    def test_one_of_those_who_are_one(self):
        sale = three_bids()
        sale.unite(2, 4)
        self.assertEqual(sale.bids_of(0), ((2, 60), (6, 30)))
        sale.strike(0, 2)
        self.assertEqual(sale.bids_of(0), ((4, 50), (6, 30)))

    def test_an_elder_one_does_not_come_again(self):
        sale = sale_of((10, 20))
        sale.bid(0, 4, 5, 60)
        sale.bid(0, 4, 7, 30)
        sale.strike(0, 4)
        self.assertEqual(sale.bids_of(0), ())

    def test_refusals(self):
        sale = three_bids(2)
        for deed in (sale.strike, sale.give_back, sale.keep):
            for thing in odd_things() + [2, 6, 10 ** 9]:
                for other in (2, 8, None, thing):
                    assert_refused(self, NoLot, deed, thing, other)
            for thing in odd_things() + [8, 10 ** 9]:
                assert_refused(self, NoBuyer, deed, 0, thing)
                assert_refused(self, NoBuyer, deed, 1, thing)
        kept_as_it_was(self, sale, NoLot, sale.strike, 2, 8)


class UniteTest(unittest.TestCase):
    def test_whoever_joined_one_of_them(self):
        sale = Sale(TENS, TERMS)
        sale.unite(5, 2)
        self.assertEqual([sale.one_with(buyer) for buyer in (2, 5, 3)], [[2, 5], [2, 5], [3]])
        sale.unite(7, 0)
        sale.unite(3, 7)
        self.assertEqual([sale.one_with(buyer) for buyer in (0, 3, 7)], [[0, 3, 7]] * 3)
        sale.unite(5, 0)
        self.assertEqual([sale.one_with(buyer) for buyer in (0, 2, 3, 5, 7)], [[0, 2, 3, 5, 7]] * 5)
        self.assertEqual([sale.one_with(buyer) for buyer in (1, 4, 6)], [[1], [4], [6]])

    def test_all(self):
        sale = Sale(TENS, TERMS)
        for buyer in range(7):
            sale.unite(7 - buyer, 6 - buyer)
        for one in range(8):
            self.assertEqual(sale.one_with(one), list(range(8)))
            for other in range(8):
                assert_refused(self, NoBuyer if one == other else There, sale.unite, one, other)

    def test_there(self):
        sale = three_bids()
        sale.unite(2, 5)
        sale.unite(5, 7)
        for one, other in itertools.permutations((2, 5, 7), 2):
            kept_as_it_was(self, sale, There, sale.unite, one, other)

    def test_refusals(self):
        sale = Sale(TENS, TERMS)
        sale.unite(0, 1)
        for thing in odd_things() + [8]:
            assert_refused(self, NoBuyer, sale.unite, thing, 2)
            assert_refused(self, NoBuyer, sale.unite, 2, thing)
            assert_refused(self, NoBuyer, sale.unite, thing, thing)
            assert_refused(self, NoBuyer, sale.one_with, thing)
        for buyer in range(8):
            assert_refused(self, NoBuyer, sale.unite, buyer, buyer)
        self.assertEqual(deeds_of(sale), 1)

    def test_as_one_early_and_late(self):
        papers = ((6, 0, 30), (4, 1, 90), (2, 2, 60), (1, 3, 20), (3, 4, 80))
        for early in range(6):
            sale = sale_of((10, 20))
            for at, paper in enumerate(papers):
                if at == early:
                    sale.unite(0, 4)
                    sale.unite(4, 3)
                sale.bid(0, *paper)
            if early == 5:
                sale.unite(0, 4)
                sale.unite(4, 3)
            # By 3, the least of those of them who bid, at the place of 4, with the greater bound.
            self.assertEqual(sale.bids_of(0), ((6, 30), (3, 90), (2, 60), (1, 20)))

    def test_by_the_least_of_those_who_bid_for_this_lot(self):
        sale = sale_of((10, 20), (10, 20), (10, 20))
        sale.unite(1, 5)
        sale.unite(5, 7)
        sale.bid(0, 7, 0, 50)
        sale.bid(1, 7, 3, 50)
        sale.bid(1, 5, 2, 40)
        sale.bid(1, 3, 1, 70)
        sale.bid(2, 7, 0, 50)
        sale.bid(2, 1, 9, 40)
        self.assertEqual(sale.bids_of(0), ((7, 50),))
        self.assertEqual(sale.bids_of(1), ((3, 70), (5, 50)))
        self.assertEqual(sale.bids_of(2), ((1, 50),))

    def test_two_rings_for_one_lot(self):
        sale = sale_of((10, 20))
        for buyer in range(8):
            sale.bid(0, buyer, 7 - buyer, 100 + buyer)
        sale.unite(7, 2)
        sale.unite(3, 6)
        sale.unite(1, 6)
        self.assertEqual(sale.bids_of(0), ((2, 107), (1, 106), (5, 105), (4, 104), (0, 100)))
        self.assertTrue(are_bids(sale.bids_of(0)))

    def test_who_has_it_as_one(self):
        sale = three_bids()
        self.assertEqual(sale.holder(0), (2, 50))
        sale.unite(4, 2)
        self.assertEqual(sale.chain(0), [(2, 30), (6, 20)])
        self.assertEqual(sale.holder(0), (2, 30))


class GiveBackTest(unittest.TestCase):
    def test_by_who_has_it(self):
        sale = long_chain()
        self.assertEqual(sale.chain(0), [(7, 60), (5, 50), (3, 40), (1, 10)])
        self.assertEqual(sale.holder(0), (7, 60))
        self.assertEqual(sale.losses(0), [])
        sale.give_back(0, 7)
        self.assertEqual(sale.holder(0), (5, 50))
        self.assertEqual(sale.losses(0), [(7, 10)])
        sale.give_back(0, 5)
        self.assertEqual(sale.holder(0), (3, 40))
        self.assertEqual(sale.losses(0), [(7, 10), (5, 10)])
        sale.give_back(0, 3)
        self.assertIsNone(sale.holder(0))
        self.assertEqual(sale.losses(0), [(7, 10), (5, 10), (3, 0)])
        for buyer in range(8):
            kept_as_it_was(self, sale, NoBid, sale.give_back, 0, buyer)

    def test_by_one_who_is_one_with_them(self):
        # 5, 6 and 7 are one, and 5 and 7 bid; so the lot is 5's, the least of these two.
        sale = long_chain()
        sale.unite(6, 7)
        sale.unite(5, 6)
        self.assertEqual(sale.holder(0), (5, 50))
        for buyer in (0, 1, 2, 3, 4, 6, 7):
            kept_as_it_was(self, sale, NoBid, sale.give_back, 0, buyer)
        sale.give_back(0, 5)
        self.assertEqual(sale.holder(0), (3, 40))
        self.assertEqual(sale.losses(0), [(5, 10)])
        for buyer in (6, 7):
            kept_as_it_was(self, sale, NoBid, sale.keep, 0, buyer)
        sale.keep(0, 5)
        self.assertEqual(sale.holder(0), (5, 50))

    def test_by_a_lesser_one_with_them_who_did_not_bid(self):
        sale = sale_of((33, 33), ladder=((0, 10), (54, 39), (94, 20)), terms=(16, 27))
        sale.unite(2, 5)
        sale.bid(0, 5, 524, 165)
        self.assertEqual((sale.holder(0), sale.one_with(2)), ((5, 33), [2, 5]))
        kept_as_it_was(self, sale, NoBid, sale.give_back, 0, 2)
        # With a bid of 2 the lot is 2's, and 5 may give it back no more.
        sale.bid(0, 2, 0, 1)
        self.assertEqual(sale.holder(0), (2, 33))
        kept_as_it_was(self, sale, NoBid, sale.give_back, 0, 5)
        sale.give_back(0, 2)
        self.assertIsNone(sale.holder(0))

    def test_who_has_it_changes_with_whom_they_are_united(self):
        sale = long_chain()
        sale.unite(7, 3)
        self.assertEqual(sale.holder(0), (3, 60))
        kept_as_it_was(self, sale, NoBid, sale.give_back, 0, 7)
        sale.undo()
        kept_as_it_was(self, sale, NoBid, sale.give_back, 0, 3)
        sale.give_back(0, 7)
        sale.unite(7, 3)
        # The giving back is still 7's, though 3 now stands for both.
        self.assertEqual((sale.holder(0), sale.losses(0)), ((5, 50), [(3, 10)]))
        kept_as_it_was(self, sale, NoBid, sale.keep, 0, 3)
        sale.keep(0, 7)
        self.assertEqual(sale.holder(0), (3, 60))

    def test_by_another(self):
        sale = long_chain()
        for buyer in (0, 1, 2, 3, 4, 5, 6):
            kept_as_it_was(self, sale, NoBid, sale.give_back, 0, buyer)
        sale.unite(5, 3)
        for buyer in (3, 5):
            kept_as_it_was(self, sale, NoBid, sale.give_back, 0, buyer)

    def test_where_nobody_has_it(self):
        sale = sale_of((10, 20), (10, 20))
        kept_as_it_was(self, sale, NoBid, sale.give_back, 0, 2)
        sale.bid(0, 2, 0, 15)
        self.assertIsNone(sale.holder(0))
        self.assertEqual(sale.losses(0), [])
        kept_as_it_was(self, sale, NoBid, sale.give_back, 0, 2)

    def test_of_one_lot_only(self):
        sale = three_bids(2)
        sale.give_back(0, 2)
        self.assertEqual([sale.holder(lot) for lot in (0, 1)], [(4, 40), (2, 50)])
        self.assertEqual([sale.losses(lot) for lot in (0, 1)], [[(2, 10)], []])

    def test_keep_is_that_very_buyers_alone(self):
        sale = long_chain()
        sale.give_back(0, 7)
        sale.give_back(0, 5)
        for buyer in (0, 1, 2, 3, 4, 6):
            kept_as_it_was(self, sale, NoBid, sale.keep, 0, buyer)
        sale.keep(0, 7)
        self.assertEqual((sale.holder(0), sale.losses(0)), ((7, 60), []))
        kept_as_it_was(self, sale, NoBid, sale.keep, 0, 7)
        sale.give_back(0, 7)
        self.assertEqual((sale.holder(0), sale.losses(0)), ((3, 40), [(7, 10), (5, 10)]))
        sale.keep(0, 5)
        self.assertEqual((sale.holder(0), sale.losses(0)), ((5, 50), [(7, 10)]))

    def test_two_of_a_ring_gave_it_back_and_one_keeps_it(self):
        sale = long_chain()
        sale.give_back(0, 7)
        sale.give_back(0, 5)
        sale.unite(5, 7)
        self.assertEqual((sale.holder(0), sale.losses(0)), ((3, 40), [(5, 10)]))
        sale.keep(0, 7)
        self.assertEqual((sale.holder(0), sale.losses(0)), ((3, 40), [(5, 10)]))
        sale.keep(0, 5)
        self.assertEqual((sale.holder(0), sale.losses(0)), ((5, 50), []))

    def test_all_who_are_one_with_them_are_gone(self):
        sale = long_chain()
        sale.give_back(0, 7)
        sale.unite(3, 7)
        # 3 and 7 are one at the place of 3: now 1, 3, 5, 3, 5, 3 take the rungs.
        self.assertEqual(sale.bids_of(0), ((1, 20), (3, 90), (5, 50)))
        self.assertEqual(sale.chain(0), [(3, 60), (5, 50), (1, 10)])
        self.assertEqual((sale.holder(0), sale.losses(0)), ((5, 50), [(3, 10)]))

    def test_gone_stays_with_whom_gave_it_back(self):
        sale = three_bids()
        sale.give_back(0, 2)
        sale.bid(0, 2, 9, 90)
        self.assertEqual(sale.chain(0)[0][0], 2)
        self.assertNotEqual(sale.holder(0)[0], 2)
        sale.strike(0, 2)
        self.assertEqual(sale.losses(0), [])
        sale.keep(0, 2)
        kept_as_it_was(self, sale, NoBid, sale.keep, 0, 2)

    def test_one_gone_who_comes_later_in_the_chain_loses_nothing(self):
        sale = long_chain()
        sale.give_back(0, 7)
        sale.give_back(0, 5)
        sale.keep(0, 7)
        self.assertEqual(sale.chain(0)[1], (5, 50))
        self.assertEqual((sale.holder(0), sale.losses(0)), ((7, 60), []))

    def test_next_one_below_least(self):
        # The chain is (2, 50), (4, 40), and least is 50: when 2 gives it back nobody has it, and 4 loses nothing.
        sale = sale_of((10, 50))
        sale.bid(0, 2, 0, 60)
        sale.bid(0, 4, 1, 50)
        sale.give_back(0, 2)
        self.assertIsNone(sale.holder(0))
        self.assertEqual(sale.losses(0), [(2, 0)])
        self.assertEqual(sale.money(0), ([], 0, 0))

    def test_gone_below_least_loses_nothing(self):
        sale = sale_of((10, 40))
        sale.bid(0, 2, 0, 60)
        sale.bid(0, 4, 1, 50)
        sale.give_back(0, 2)
        sale.give_back(0, 4)
        sale.bid(0, 2, 0, 45)
        # Now the chain is (4, 40), (2, 30): 2 is gone, but below least.
        self.assertEqual(sale.chain(0), [(4, 40), (2, 30)])
        self.assertEqual(sale.losses(0), [(4, 0)])


class ResaleTest(unittest.TestCase):
    def returned(self, *others):
        """Lot 0 is given back by all: losses of 10, 10 and the last one's, whose price is 40."""
        sale = long_chain()
        for buyer in (7, 5, 3):
            sale.give_back(0, buyer)
        for start, least in others:
            sale.enter(start, least, PARTS)
        return sale

    def test_last_loss_where_the_other_lot_has_a_holder(self):
        for bound, loss in ((10, 30), (20, 20), (30, 10), (40, 0), (50, 0), (90, 0)):
            sale = self.returned((10, 10))
            sale.bid(1, 0, 0, bound)
            sale.bid(1, 6, 1, bound)
            self.assertEqual(sale.holder(1)[1], bound)
            self.assertEqual(sale.losses(0)[2], (3, 0))
            sale.resale(0, 1)
            self.assertEqual(sale.losses(0), [(7, 10), (5, 10), (3, loss)])
            self.assertEqual(sale.losses(1), [])

    def test_told_early_or_late(self):
        sale = self.returned((10, 10))
        sale.resale(0, 1)
        self.assertEqual(sale.losses(0)[2], (3, 0))
        sale.bid(1, 3, 0, 10)
        self.assertEqual(sale.losses(0)[2], (3, 30))
        sale.give_back(1, 3)
        self.assertEqual(sale.losses(0)[2], (3, 0))
        self.assertEqual(sale.losses(1), [(3, 0)])

    def test_where_the_lot_is_had_the_resale_counts_nothing(self):
        sale = self.returned((10, 10))
        sale.bid(1, 0, 0, 10)
        sale.resale(0, 1)
        sale.keep(0, 3)
        self.assertEqual((sale.holder(0), sale.losses(0)), ((3, 40), [(7, 10), (5, 10)]))

    def test_where_the_lot_is_below_least_but_never_given_back(self):
        sale = sale_of((10, 90), (10, 10))
        sale.bid(0, 2, 0, 50)
        sale.bid(1, 2, 0, 50)
        sale.resale(0, 1)
        self.assertEqual(sale.losses(0), [])

    def test_a_holder_of_its_own(self):
        # Lot 1 has nobody, though it is itself sold again as lot 2, which has somebody.
        sale = self.returned((10, 10), (10, 10))
        sale.bid(1, 4, 0, 20)
        sale.give_back(1, 4)
        sale.bid(2, 4, 0, 10)
        sale.resale(0, 1)
        sale.resale(1, 2)
        self.assertEqual(sale.losses(0)[2], (3, 0))
        self.assertEqual(sale.losses(1), [(4, 0)])
        sale.bid(1, 6, 1, 20)
        self.assertEqual(sale.holder(1), (6, 20))
        self.assertEqual(sale.losses(0)[2], (3, 20))

    def test_in_place_of_an_elder_one(self):
        sale = self.returned((10, 10), (20, 20))
        sale.bid(1, 0, 0, 10)
        sale.bid(2, 0, 0, 20)
        sale.resale(0, 1)
        self.assertEqual(sale.losses(0)[2], (3, 30))
        sale.resale(0, 2)
        self.assertEqual(sale.losses(0)[2], (3, 20))
        sale.resale(0, 1)
        self.assertEqual(sale.losses(0)[2], (3, 30))

    def test_several_sold_again_as_one(self):
        sale = sale_of((50, 50), (70, 70), (10, 10))
        for lot, bound in ((0, 50), (1, 70)):
            sale.bid(lot, lot, 0, bound)
            sale.give_back(lot, lot)
            sale.resale(lot, 2)
        sale.bid(2, 5, 0, 10)
        self.assertEqual([sale.losses(lot) for lot in range(3)], [[(0, 40)], [(1, 60)], []])
        self.assertEqual(sale.money(0), ([(0, 40)], 40, 0))
        self.assertEqual(sale.money(1), ([(1, 60)], 60, 0))
        self.assertEqual(sale.money(2), ([(5, 11)], 8, 3))

    def test_refusals(self):
        sale = three_bids(3)
        for thing in odd_things() + [3, 6]:
            assert_refused(self, NoLot, sale.resale, thing, 1)
            assert_refused(self, NoLot, sale.resale, 0, thing)
            assert_refused(self, NoLot, sale.resale, thing, thing)
        for lot, later in itertools.product(range(-1, 5), repeat=2):
            if 0 <= lot < later < 3:
                sale.resale(lot, later)
            else:
                kept_as_it_was(self, sale, NoLot, sale.resale, lot, later)

    def test_unlike_parts(self):
        sale = Sale(TENS, TERMS)
        for parts in (((0, 1),), ((0, 2),), ((1, 1),), ((0, 1), (1, 1)), ((0, 2), (1, 2)), ((0, 1),)):
            sale.enter(10, 20, parts)
        for lot, later in itertools.combinations(range(6), 2):
            if (lot, later) != (0, 5):
                kept_as_it_was(self, sale, NoParts, sale.resale, lot, later)
                kept_as_it_was(self, sale, NoLot, sale.resale, later, lot)
        sale.resale(0, 5)


class MoneyTest(unittest.TestCase):
    def test_who_has_it(self):
        sale = three_bids()
        self.assertEqual(sale.money(0), ([(2, 55)], 40, 15))

    def test_who_has_it_and_who_loses_by_it(self):
        sale = long_chain()
        sale.give_back(0, 7)
        sale.give_back(0, 5)
        # (3, 40) by premium 10 and commission 20: 44, 32, 12.
        self.assertEqual(sale.money(0), ([(3, 44), (5, 10), (7, 10)], 52, 12))
        sale.give_back(0, 3)
        self.assertEqual(sale.money(0), ([(5, 10), (7, 10)], 20, 0))

    def test_amounts_of_one_penny(self):
        sale = sale_of((1, 1), ladder=ONES, terms=(0, 0))
        sale.bid(0, 0, 0, 1)
        self.assertEqual(sale.money(0), ([(0, 1)], 1, 0))
        sale.bid(0, 5, 1, 2)
        self.assertEqual(sale.holder(0), (5, 2))
        sale.give_back(0, 5)
        self.assertEqual(sale.money(0), ([(0, 1), (5, 1)], 2, 0))

    def test_begun_pennies(self):
        sale = sale_of((1, 1), ladder=ONES)
        sale.bid(0, 0, 0, 1)
        self.assertEqual(sale.money(0), ([(0, 2)], 0, 2))

    def test_owes_by_all_lots_less_what_was_paid(self):
        sale = three_bids(2)
        self.assertEqual([sale.owes(buyer) for buyer in range(8)], [0, 0, 110, 0, 0, 0, 0, 0])
        sale.give_back(0, 2)
        self.assertEqual([sale.owes(buyer) for buyer in range(8)], [0, 0, 65, 0, 44, 0, 0, 0])
        sale.pay(2, 65)
        sale.pay(4, 50)
        sale.pay(0, 7)
        self.assertEqual([sale.owes(buyer) for buyer in range(8)], [-7, 0, 0, 0, -6, 0, 0, 0])
        sale.pay(4, 10 ** 9)
        sale.pay(4, 10 ** 9)
        self.assertEqual(sale.owes(4), -6 - 2 * 10 ** 9)

    def test_payments_of_buyers_who_are_one_count_together(self):
        for late in (False, True):
            sale = three_bids(2)
            if not late:
                sale.unite(2, 0)
                sale.unite(5, 0)
            sale.pay(0, 3)
            sale.pay(2, 20)
            sale.pay(5, 100)
            sale.pay(4, 1000)
            if late:
                sale.unite(2, 0)
                sale.unite(5, 0)
            self.assertEqual([sale.owes(buyer) for buyer in (0, 2, 5)], [110 - 123] * 3)
            self.assertEqual([sale.owes(buyer) for buyer in (1, 4)], [0, -1000])

    def test_what_those_who_are_one_owe_by_several_lots(self):
        sale = sale_of((10, 10), (20, 20))
        sale.bid(0, 1, 0, 10)
        sale.bid(1, 6, 0, 20)
        self.assertEqual((sale.owes(1), sale.owes(6)), (11, 22))
        sale.unite(1, 6)
        self.assertEqual((sale.owes(1), sale.owes(6)), (33, 33))

    def test_gets_and_house(self):
        sale = three_bids(1)
        sale.enter(10, 10, ((3, 1), (4, 1), (7, 1)))
        sale.bid(1, 0, 0, 10)
        # Of lot 0 the sellers get 40, of lot 1 they get 8; the house keeps 15 and 3.
        self.assertEqual([sale.gets(seller) for seller in range(8)], [13, 0, 0, 27 + 2, 3, 0, 0, 3])
        self.assertEqual(sale.house(), 18)

    def test_losses_go_to_the_sellers(self):
        sale = long_chain()
        sale.give_back(0, 7)
        # (5, 50): 55, 40, 15, and a loss of 10.
        self.assertEqual(sale.money(0), ([(5, 55), (7, 10)], 50, 15))
        self.assertEqual([sale.gets(seller) for seller in (0, 3)], [16, 34])
        self.assertEqual(sale.house(), 15)

    def test_payments_change_no_lots_money(self):
        sale = three_bids()
        before = (sale.money(0), sale.house(), sale.gets(0))
        sale.pay(2, 55)
        self.assertEqual((sale.money(0), sale.house(), sale.gets(0)), before)

    def test_refusals(self):
        sale = three_bids()
        assert_refuses_each(self, sale.pay, (7, 5), (NoBuyer, NoPrice))
        amounts, no_amounts = number_borders(1, 10 ** 9)
        for amount in amounts:
            sale.pay(0, amount)
        for amount in no_amounts:
            kept_as_it_was(self, sale, NoPrice, sale.pay, 0, amount)
        for thing in odd_things() + [8]:
            assert_refused(self, NoBuyer, sale.pay, thing, 5)
            assert_refused(self, NoBuyer, sale.owes, thing)
            assert_refused(self, NoSeller, sale.gets, thing)
        for number in range(8):
            sale.owes(number)
            sale.gets(number)


class QuestionsTest(unittest.TestCase):
    def test_no_lot(self):
        sale = three_bids(2)
        for question in (sale.bids_of, sale.holder, sale.losses, sale.money):
            for thing in odd_things() + [2, 5, 6]:
                assert_refused(self, NoLot, question, thing)
            assert_refused(self, NoLot, getattr(Sale(TENS, TERMS), question.__name__), 0)

    def test_the_same_question_has_the_same_answer(self):
        sale = long_chain()
        sale.give_back(0, 7)
        sale.pay(3, 9)
        self.assertEqual(all_told(sale), all_told(sale))
        self.assertEqual(deeds_of(sale), 7)

    def test_the_askers_own(self):
        sale = long_chain()
        sale.give_back(0, 7)
        sale.unite(2, 4)
        before = all_told(sale)
        for told in (sale.losses(0), sale.money(0)[0], sale.one_with(2), sale.one_with(0)):
            told.append((0, 5))
            told[0] = None
            self.assertEqual(all_told(sale), before)
            told.clear()
            self.assertEqual(all_told(sale), before)

    def test_two_sales_have_nothing_in_common(self):
        one, other = three_bids(2), three_bids(2)
        before = all_told(other)
        one.unite(0, 1)
        one.bid(0, 0, 0, 900)
        one.give_back(1, 2)
        one.pay(3, 4)
        one.resale(0, 1)
        one.enter(5, 5, PARTS)
        self.assertEqual(all_told(other), before)
        self.assertEqual(deeds_of(other), 8)

    def test_far(self):
        sale = Sale(ONES, TERMS)
        for lot in range(6):
            sale.enter(1, 1, PARTS)
            for buyer in range(8):
                sale.bid(lot, buyer, buyer, 10 ** 6 - buyer)
        # 0 and 1 take turns from price 1 on: 0 the odd ones, 1 the even ones, so nobody answers 10 ** 6 - 1 by 0.
        self.assertEqual(told_at_once(sale.holder, 0), (0, 999999))
        told_at_once(sale.give_back, 0, 0)
        self.assertEqual(told_at_once(sale.holder, 0), (1, 999998))
        self.assertEqual(told_at_once(sale.losses, 0, lines=20000), [(0, 1)])
        told_at_once(sale.resale, 0, 5)
        told_at_once(sale.unite, 0, 1)
        self.assertEqual(told_at_once(sale.bids_of, 1)[0], (0, 10 ** 6))
        for function, handed in ((sale.money, 0), (sale.owes, 0), (sale.gets, 0)):
            told_at_once(function, handed, lines=100000)
        told_at_once(sale.house, lines=100000)


class RefusalsTest(unittest.TestCase):
    # What stands, and the class that is due in each place.
    ASKED = (
        ("enter", (10, 20, PARTS), (NoLot, NoLot, NoParts)), ("bid", (0, 2, 0, 60), (NoLot, NoBuyer, NoHour, NoPrice)),
        ("strike", (0, 4), (NoLot, NoBuyer)), ("give_back", (1, 2), (NoLot, NoBuyer)),
        ("keep", (0, 2), (NoLot, NoBuyer)),
        ("resale", (0, 1), (NoLot, NoLot)), ("unite", (0, 1), (NoBuyer, NoBuyer)), ("pay", (0, 5), (NoBuyer, NoPrice)),
        ("bids_of", (0,), (NoLot,)), ("holder", (0,), (NoLot,)), ("losses", (0,), (NoLot,)), ("money", (0,), (NoLot,)),
        ("owes", (0,), (NoBuyer,)), ("gets", (0,), (NoSeller,)), ("one_with", (0,), (NoBuyer,)),
    )

    def made(self):
        sale = three_bids(2)
        sale.give_back(0, 2)
        sale.pay(2, 5)
        return sale

    def test_one_and_several_that_are_none(self):
        sale = self.made()
        before = all_told(sale)
        for name, handed, dues in self.ASKED:
            getattr(sale.twin(), name)(*handed)
            for which in itertools.product((False, True), repeat=len(handed)):
                for thing in odd_things() if any(which) else ():
                    row = [thing if bad else good for bad, good in zip(which, handed)]
                    assert_refused(self, dues[which.index(True)], getattr(sale, name), *row)
            self.assertEqual(all_told(sale), before, name)
            self.assertEqual(deeds_of(sale), 10)

    def test_what_is_none_comes_ahead_of_what_does_not_fit(self):
        sale = self.made()
        sale.enter(10, 20, ((0, 1),))
        sale.unite(0, 1)
        for name, handed, due in (
                ("strike", (9, 7), NoLot), ("strike", (0, 9), NoBuyer), ("give_back", (9, 7), NoLot),
                ("give_back", (0, 9), NoBuyer), ("keep", (9, 7), NoLot), ("keep", (0, 9), NoBuyer),
                ("resale", (2, 0), NoLot), ("resale", (2, 2), NoLot), ("resale", (0, 2), NoParts),
                ("unite", (0, 0), NoBuyer), ("unite", (9, 9), NoBuyer), ("unite", (1, 0), There)):
            kept_as_it_was(self, sale, due, getattr(sale, name), *handed)


class UndoTest(unittest.TestCase):
    DEEDS = (
        ("enter", 10, 20, PARTS), ("enter", 10, 10, PARTS), ("bid", 0, 2, 5, 60), ("bid", 0, 4, 3, 50),
        ("bid", 0, 2, 1, 70), ("pay", 2, 30), ("give_back", 0, 2), ("give_back", 0, 4), ("unite", 2, 6),
        ("bid", 1, 6, 0, 10), ("resale", 0, 1), ("pay", 6, 5), ("strike", 0, 4), ("bid", 0, 5, 9, 40), ("keep", 0, 2),
        ("give_back", 0, 2), ("give_back", 0, 5), ("enter", 10, 20, PARTS), ("bid", 2, 1, 999, 20), ("resale", 0, 2),
        ("unite", 4, 6), ("pay", 2, 1), ("strike", 1, 6), ("unite", 0, 1), ("keep", 0, 5),
    )

    def test_each_deed_one_behind_the_other_down_to_none(self):
        sale = Sale(TENS, TERMS)
        told = [all_told(sale)]
        for name, *handed in self.DEEDS:
            getattr(sale, name)(*handed)
            told.append(all_told(sale))
        for ahead, behind in zip(told, told[1:]):
            self.assertNotEqual(ahead, behind)
        for due in reversed(told[:-1]):
            self.assertIsNone(sale.undo())
            self.assertEqual(all_told(sale), due)
        for turn in range(3):
            kept_as_it_was(self, sale, NoUndo, sale.undo)

    def test_as_if_it_had_not_been_told(self):
        for many in range(len(self.DEEDS)):
            sale, other = Sale(TENS, TERMS), Sale(TENS, TERMS)
            for name, *handed in self.DEEDS[:many]:
                getattr(other, name)(*handed)
            for name, *handed in self.DEEDS:
                getattr(sale, name)(*handed)
            for turn in self.DEEDS[many:]:
                sale.undo()
            for name, *handed in self.DEEDS[many:]:
                self.assertEqual(getattr(sale, name)(*handed), getattr(other, name)(*handed))
                self.assertEqual(all_told(sale), all_told(other))

    def test_deeds_that_change_nothing_are_undone_too(self):
        sale = three_bids(2)
        sale.bid(0, 2, 0, 60)
        sale.resale(0, 1)
        sale.resale(0, 1)
        self.assertEqual(deeds_of(sale), 11)

    def test_what_was_refused_is_no_deed(self):
        sale = three_bids()
        for name, *handed in (("enter", 0, 0, PARTS), ("bid", 0, 0, 0, 0), ("strike", 0, 0), ("give_back", 0, 0),
                              ("keep", 0, 2), ("resale", 0, 0), ("unite", 0, 0), ("pay", 0, 0)):
            with self.assertRaises(SaleError):
                getattr(sale, name)(*handed)
        sale.undo()
        self.assertEqual(sale.bids_of(0), ((2, 60), (4, 50)))

    def test_questions_and_twins_are_no_deeds(self):
        sale = three_bids()
        all_told(sale)
        sale.twin()
        sale.undo()
        self.assertEqual(sale.bids_of(0), ((2, 60), (4, 50)))


class TwinTest(unittest.TestCase):
    def test_with_what_stands_and_what_can_be_undone(self):
        sale = Sale(TENS, TERMS)
        for name, *handed in UndoTest.DEEDS:
            getattr(sale, name)(*handed)
            other = sale.twin()
            self.assertEqual(all_told(other), all_told(sale))
            self.assertEqual(deeds_of(other), deeds_of(sale))
        while deeds_of(sale):
            sale.undo()
            other.undo()
            self.assertEqual(all_told(other), all_told(sale))
        assert_refused(self, NoUndo, other.undo)

    def test_each_goes_on_by_itself(self):
        for many in range(len(UndoTest.DEEDS)):
            for goes, stays in (("sale", "twin"), ("twin", "sale")):
                sale = Sale(TENS, TERMS)
                for name, *handed in UndoTest.DEEDS[:many]:
                    getattr(sale, name)(*handed)
                both = {"sale": sale, "twin": sale.twin()}
                before = all_told(both[stays])
                for name, *handed in UndoTest.DEEDS[many:]:
                    getattr(both[goes], name)(*handed)
                self.assertEqual(all_told(both[stays]), before)
                self.assertEqual(deeds_of(both[stays]), many)
                self.assertEqual(deeds_of(both[goes]), len(UndoTest.DEEDS))

    def test_undo_in_one_then_other_deeds(self):
        sale = three_bids()
        twin = sale.twin()
        sale.undo()
        sale.undo()
        self.assertEqual(sale.bids_of(0), ((2, 60),))
        sale.bid(0, 7, 0, 40)
        sale.unite(7, 6)
        self.assertEqual(twin.bids_of(0), ((2, 60), (4, 50), (6, 30)))
        twin.undo()
        self.assertEqual(twin.bids_of(0), ((2, 60), (4, 50)))
        twin.undo()
        twin.undo()
        twin.bid(0, 1, 1, 11)
        self.assertEqual(twin.bids_of(0), ((1, 11),))
        self.assertEqual(sale.bids_of(0), ((2, 60), (7, 40)))
        self.assertEqual(twin.one_with(7), [7])

    def test_twins_of_twins(self):
        sale = three_bids()
        one = sale.twin()
        two = one.twin()
        one.pay(0, 5)
        two.pay(0, 7)
        self.assertEqual([each.owes(0) for each in (sale, one, two)], [0, -5, -7])


if __name__ == "__main__":
    unittest.main()
