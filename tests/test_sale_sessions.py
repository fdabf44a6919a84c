"""Whole sessions of a sale and of a desk against the slow sale [6.1 to 6.5, 7.2, 7.3]: the same ones each time."""

import random
import unittest

from hammersale.desk import Desk
from hammersale.errors import (NoBid, NoBuyer, NoHour, NoLot, NoParts, NoPrice, NoUndo, SaleError, There, TooMany)
from hammersale.sale import Sale
from hammersale.texts import shown_ladder, shown_parts
from tests.slow_sale import SlowSale, all_told
from tests.slow_walk import LADDERS

ALL_PARTS = (((0, 1), (3, 2)), ((5, 100),), ((0, 1), (3, 2)), ((1, 3), (2, 3), (6, 1), (7, 9)))
ALL_TERMS = ((10, 15), (0, 0), (50, 50), (17, 3))
WORDS = {"give_back": "back", "unite": "join"}
NAMES = (["bid"] * 12 + ["give_back"] * 8 + ["keep"] * 2 + ["resale"] * 3 + ["unite"] * 2
         + ["pay", "undo", "strike", "enter"])


def drawn_deed(dice, slow):
    """A deed that mostly stands, and what is handed in with it."""
    name = dice.choice(NAMES)
    lot = dice.randint(-1 if dice.random() < 0.05 else 0, max(0, slow.lots() - 1))
    if dice.random() < 0.02:
        lot = slow.lots()
    buyer = dice.choice((8, -1)) if dice.random() < 0.02 else dice.randrange(8)
    if name == "enter":
        start = dice.randint(1, 8)
        return name, (start, start + dice.choice((0, 0, 2, 5)), dice.choice(ALL_PARTS))
    if name == "bid":
        return name, (lot, buyer, dice.choice((0, 1, 2, 3, 999, 1000)), dice.choice((0, 3, 7, 8, 12, 15, 20, 25)))
    if name == "give_back" and 0 <= lot < slow.lots() and dice.random() < 0.8:
        held = slow.holder(lot)
        if held is not None:
            buyer = held[0] if dice.random() < 0.7 else dice.choice(slow.one_with(held[0]))
        return name, (lot, buyer)
    if name == "keep" and 0 <= lot < slow.lots() and dice.random() < 0.8:
        return name, (lot, dice.choice(sorted(slow.back(lot)) + [buyer]))
    if name == "resale":
        return name, (lot, dice.randint(-1, slow.lots()))
    if name == "unite":
        return name, (buyer, dice.randrange(8))
    if name == "pay":
        return name, (buyer, dice.choice((0, 1, 5, 30, 10 ** 9)))
    return name, () if name == "undo" else (lot, buyer)


def line_of(name, handed):
    words = [shown_parts(one) if type(one) is tuple else str(one) for one in handed]
    return " ".join([WORDS.get(name, name)] + words)


def outcome(function, *handed):
    """What was told, and the class that was due."""
    try:
        return function(*handed), None
    except SaleError as error:
        return None, type(error)


def shown_rows(rows):
    return " ".join(f"{buyer}={number}" for buyer, number in rows) or "none"


class SessionTest(unittest.TestCase):
    def setUp(self):
        self.seen = set()

    def begin(self, turn):
        self.dice = random.Random(turn)
        ladder, terms = LADDERS[turn % 4], ALL_TERMS[turn // 4 % 4]
        self.sale, self.slow, self.desk = Sale(ladder, terms), SlowSale(ladder, terms), Desk()
        self.assertEqual(self.desk.say(f"sale {shown_ladder(ladder)} {terms[0]} {terms[1]}"), "ok")
        for lot in range(2 if turn % 3 else 5):
            self.tell("enter", (lot + 1, lot + 1, ALL_PARTS[turn % 2]))

    def tell(self, name, handed):
        number = self.slow.lots()
        if name == "give_back":
            self.look_at_giver(*handed)
        due = self.slow.do(name, *handed)
        self.seen.add(due)
        answer = None if due else number if name == "enter" else None
        self.assertEqual(outcome(getattr(self.sale, name), *handed), (answer, due), (name, handed))
        answer = None if due else str(number) if name == "enter" else "ok"
        self.assertEqual(outcome(self.desk.say, line_of(name, handed)), (answer, due), (name, handed))

    def compare(self):
        told = all_told(self.sale)
        self.assertEqual(told, all_told(self.slow), self.slow.log)
        self.compare_desk(told)
        self.compare_sums(told)
        return told

    def compare_desk(self, told):
        for lot, (bids, held, losses, money) in enumerate(told["each lot"]):
            chain = self.slow.chain(lot)
            self.assertEqual(self.sale.chain(lot), chain)
            self.assertEqual(self.desk.say(f"bids {lot}"), shown_rows(bids).replace(" ", ","))
            self.assertEqual(self.desk.say(f"holder {lot}"), "none" if held is None else f"{held[0]} {held[1]}")
            self.assertEqual(self.desk.say(f"chain {lot}"), shown_rows(chain))
            self.assertEqual(self.desk.say(f"losses {lot}"), shown_rows(losses))
        self.assertEqual([self.desk.say(f"owes {buyer}") for buyer in range(8)], [str(one) for one in told["owes"]])
        self.assertEqual([self.desk.say(f"gets {one}") for one in range(8)], [str(one) for one in told["gets"]])
        self.assertEqual(self.desk.say("house"), str(told["house"]))

    def compare_sums(self, told):
        for bids, held, losses, (owed, got, kept) in told["each lot"]:
            self.assertEqual(sum(amount for buyer, amount in owed), got + kept)
        firsts = [buyer for buyer in range(8) if told["one_with"][buyer][0] == buyer]
        owed = sum(told["owes"][buyer] for buyer in firsts)
        paid = sum(amount for buyer, amount in self.slow.told("pay"))
        self.assertEqual(owed + paid, sum(told["gets"]) + told["house"])

    def look_at_giver(self, lot, buyer):
        """Notes whether one who is one with the holder, but isn't the holder, gives a lot back [6.1]."""
        held = self.slow.holder(lot) if 0 <= lot < self.slow.lots() else None
        if held is not None and buyer != held[0] and buyer in self.slow.one_with(held[0]):
            self.seen.add("one with the holder")

    def look_at_losses(self, told):
        """Notes which of the ways of 6.3 were gone."""
        for lot, (bids, held, losses, money) in enumerate(told["each lot"]):
            self.seen.add(("losers", min(len(losses), 3)))
            again = [later for elder, later in self.slow.told("resale") if elder == lot]
            if losses and held is None and again:
                other = told["each lot"][again[-1]][1]
                self.seen.add(("again", other is not None, losses[-1][1] > 0))
            if losses and held is not None:
                self.seen.add(("had", losses[-1][1] > 0))

    def test_sessions(self):
        for turn in range(60):
            self.begin(turn)
            for deed in range(45):
                self.tell(*drawn_deed(self.dice, self.slow))
                if deed % 5 == 0:
                    self.look_at_losses(self.compare())
                if deed % 9 == 0:
                    self.sale = self.sale.twin()
        self.assertGreaterEqual(self.seen, {
            None, NoLot, NoBuyer, NoHour, NoPrice, NoBid, NoParts, There, TooMany, "one with the holder",
            ("losers", 0), ("losers", 1), ("losers", 2), ("losers", 3),
            ("again", True, True), ("again", True, False), ("again", False, False), ("had", True)})

    def test_all_undone(self):
        for turn in range(20):
            self.begin(turn)
            for deed in range(40):
                self.tell(*drawn_deed(self.dice, self.slow))
            while self.slow.log:
                self.tell("undo", ())
                if len(self.slow.log) % 4 == 0:
                    self.compare()
            self.tell("undo", ())
        self.assertIn(NoUndo, self.seen)

    def test_twins_go_on_by_themselves(self):
        for turn in range(20):
            self.begin(turn)
            for deed in range(25):
                self.tell(*drawn_deed(self.dice, self.slow))
            twin, before, log = self.sale.twin(), all_told(self.sale), list(self.slow.log)
            for deed in range(25):
                self.tell(*drawn_deed(self.dice, self.slow))
            self.compare()
            self.assertEqual(all_told(twin), before)
            while log:
                twin.undo()
                log.pop()
            self.assertEqual(outcome(twin.undo), (None, NoUndo))
            self.compare()


if __name__ == "__main__":
    unittest.main()
