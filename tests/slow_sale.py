"""A sale that keeps nothing but the deeds it was told, and looks through all of them for each answer."""

import math
from fractions import Fraction

from hammersale.errors import (NoBid, NoBuyer, NoHour, NoLot, NoParts, NoPrice, NoSeller, NoUndo, There, TooMany)
from tests.slow_walk import chain_walked, walked

QUESTIONS = ("bids_of", "holder", "losses", "money")


def is_plain(thing, low, high):
    return type(thing) is int and low <= thing <= high


def all_told(sale):
    """All that a sale tells, in one thing that can be compared."""
    lots = range(sale.lots())
    return {
        "lots": sale.lots(),
        "each lot": [[getattr(sale, question)(lot) for question in QUESTIONS] for lot in lots],
        "owes": [sale.owes(buyer) for buyer in range(8)],
        "one_with": [sale.one_with(buyer) for buyer in range(8)],
        "gets": [sale.gets(seller) for seller in range(8)],
        "house": sale.house(),
    }


class SlowSale:
    def __init__(self, ladder, terms):
        self.ladder = ladder
        self.terms = terms
        self.log = []

    def do(self, name, *handed):
        """The class that is due, or None, and then the deed stands."""
        due = getattr(self, "due_" + name)(*handed)
        if due is None and name == "undo":
            self.log.pop()
        elif due is None:
            self.log.append((name, handed))
        return due

    def told(self, *names):
        return [handed for name, handed in self.log if name in names]

    # What is due.

    def due_place(self, lot, buyer):
        if not is_plain(lot, 0, self.lots() - 1):
            return NoLot
        return None if is_plain(buyer, 0, 7) else NoBuyer

    def due_enter(self, start, least, parts):
        return TooMany if self.lots() == 6 else None

    def due_bid(self, lot, buyer, hour, bound):
        due = self.due_place(lot, buyer)
        if due is None and not is_plain(hour, 0, 999):
            return NoHour
        if due is None and not is_plain(bound, 1, 10 ** 6):
            return NoPrice
        return due

    def due_strike(self, lot, buyer):
        due = self.due_place(lot, buyer)
        return NoBid if due is None and buyer not in self.papers(lot) else due

    def due_give_back(self, lot, buyer):
        due = self.due_place(lot, buyer)
        if due is not None:
            return due
        held = self.holder(lot)
        return None if held is not None and held[0] == buyer else NoBid

    def due_keep(self, lot, buyer):
        due = self.due_place(lot, buyer)
        return NoBid if due is None and buyer not in self.back(lot) else due

    def due_resale(self, lot, later):
        if not (is_plain(lot, 0, self.lots() - 1) and is_plain(later, lot + 1, self.lots() - 1)):
            return NoLot
        entered = self.told("enter")
        return None if entered[lot][2] == entered[later][2] else NoParts

    def due_unite(self, one, other):
        if not (is_plain(one, 0, 7) and is_plain(other, 0, 7)) or one == other:
            return NoBuyer
        return There if other in self.one_with(one) else None

    def due_pay(self, buyer, amount):
        if not is_plain(buyer, 0, 7):
            return NoBuyer
        return None if is_plain(amount, 1, 10 ** 9) else NoPrice

    def due_undo(self):
        return None if self.log else NoUndo

    # What is told.

    def lots(self):
        return len(self.told("enter"))

    def one_with(self, buyer):
        found = {buyer}
        for turn in range(8):
            for pair in self.told("unite"):
                if found & set(pair):
                    found |= set(pair)
        return sorted(found)

    def papers(self, lot):
        """The last paper of each buyer that wasn't struck behind it."""
        papers = {}
        for name, handed in self.log:
            if name == "bid" and handed[0] == lot:
                papers[handed[1]] = handed[2:]
            if name == "strike" and handed[0] == lot:
                del papers[handed[1]]
        return papers

    def back(self, lot):
        buyers = set()
        for name, handed in self.log:
            if name == "give_back" and handed[0] == lot:
                buyers.add(handed[1])
            if name == "keep" and handed[0] == lot:
                buyers.remove(handed[1])
        return buyers

    def bids_of(self, lot):
        papers = self.papers(lot)
        rows = []
        for buyer in sorted(papers, key=lambda one: (papers[one][0], one)):
            same = [one for one in papers if one in self.one_with(buyer)]
            row = (min(same), max(papers[one][1] for one in same))
            if row not in rows:
                rows.append(row)
        return tuple(rows)

    def chain(self, lot):
        start, least, parts = self.told("enter")[lot]
        return chain_walked(walked(self.ladder, (start, least), self.bids_of(lot)))

    def is_gone(self, lot, buyer):
        return bool(self.back(lot) & set(self.one_with(buyer)))

    def holder(self, lot):
        for buyer, price in self.chain(lot):
            if not self.is_gone(lot, buyer):
                return (buyer, price) if price >= self.told("enter")[lot][1] else None
        return None

    def losses(self, lot):
        least = self.told("enter")[lot][1]
        losers = []
        for buyer, price in self.chain(lot):
            if price < least or not self.is_gone(lot, buyer):
                break
            losers.append((buyer, price))
        rows = [(buyer, price - losers[at + 1][1]) for at, (buyer, price) in enumerate(losers[:-1])]
        return rows + [(buyer, self.last_loss(lot, price)) for buyer, price in losers[-1:]]

    def last_loss(self, lot, price):
        held = self.holder(lot)
        if held is not None:
            return price - held[1]
        again = [later for elder, later in self.told("resale") if elder == lot]
        held = self.holder(again[-1]) if again else None
        return 0 if held is None else max(0, price - held[1])

    def money(self, lot):
        losses = self.losses(lot)
        held = self.holder(lot)
        owed = dict(losses)
        got = sum(owed.values())
        kept = 0
        if held is not None:
            buyer, price = held
            owed[buyer] = math.ceil(price * (1 + Fraction(self.terms[0], 100)))
            share = math.floor(price * (1 - Fraction(self.terms[1], 100)))
            kept = owed[buyer] - share
            got += share
        return ([(buyer, owed[buyer]) for buyer in range(8) if owed.get(buyer)], got, kept)

    def owes(self, buyer):
        ring = self.one_with(buyer)
        owed = sum(much for lot in range(self.lots()) for one, much in self.money(lot)[0] if one in ring)
        return owed - sum(amount for one, amount in self.told("pay") if one in ring)

    def gets(self, seller):
        if not is_plain(seller, 0, 7):
            raise NoSeller("no seller")
        shares = 0
        for lot, (start, least, parts) in enumerate(self.told("enter")):
            got = self.money(lot)[1]
            whole = sum(part for one, part in parts)
            upto = sum(part for one, part in parts if one <= seller)
            ahead = sum(part for one, part in parts if one < seller)
            shares += got * upto // whole - got * ahead // whole
        return shares

    def house(self):
        return sum(self.money(lot)[2] for lot in range(self.lots()))
