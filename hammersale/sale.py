"""A sale: lots, papers, returns and resales, and what all of them owe and get [6.1 to 6.5]."""

from hammersale.bids import check_lot, is_buyer
from hammersale.books import Books
from hammersale.checks import is_within
from hammersale.errors import NoBid, NoBuyer, NoHour, NoLot, NoParts, NoSeller, NoUndo, There, TooMany
from hammersale.ladders import GREATEST_BOUND, check_ladder, check_price
from hammersale.money import bill_of, check_parts, check_terms, is_seller, parted_along
from hammersale.walks import chain_of, fallen_to

MOST_LOTS = 6
GREATEST_HOUR = 999
GREATEST_PAYMENT = 10 ** 9


class Sale:
    """A sale of a ladder and terms."""

    def __init__(self, ladder, terms):
        check_ladder(ladder)
        check_terms(terms)
        self.ladder = ladder
        self.terms = terms
        self.books = Books()
        self.past = []

    def stand(self, books):
        """Makes these the sale's books, so that undo finds those of before.

        Each deed hands in books of its own, and none are changed once they stand; so twins may share them.
        """
        self.past.append(self.books)
        self.books = books

    def enter(self, start, least, parts):
        """Tells the number of a lot that comes in."""
        lot = (start, least)
        check_lot(lot)
        check_parts(parts)
        number = self.lots()
        if number >= MOST_LOTS:
            raise TooMany(number + 1, MOST_LOTS)
        books = self.books.copied()
        books.entered.append((lot, parts))
        self.stand(books)
        return number

    def bid(self, lot, buyer, hour, bound):
        """A buyer's paper for a lot, in place of an elder one."""
        self.check_place(lot, buyer)
        check_hour(hour)
        check_price(bound, 1, GREATEST_BOUND)
        books = self.books.copied()
        books.papers[(lot, buyer)] = (hour, bound)
        self.stand(books)

    def strike(self, lot, buyer):
        """A buyer's bid for a lot is out."""
        self.check_place(lot, buyer)
        if (lot, buyer) not in self.books.papers:
            raise NoBid("this buyer has no bid for this lot")
        books = self.books.copied()
        books.papers.pop((lot, buyer))
        self.stand(books)

    def give_back(self, lot, buyer):
        """Who has a lot gives it back; nobody else may, not even one who is one with them."""
        self.check_place(lot, buyer)
        held = self.holder(lot)
        if held is None or held[0] != buyer:
            raise NoBid("this buyer doesn't have this lot")
        books = self.books.copied()
        books.returned[(lot, buyer)] = True
        self.stand(books)

    def keep(self, lot, buyer):
        """This very buyer's giving back of a lot is out."""
        self.check_place(lot, buyer)
        if (lot, buyer) not in self.books.returned:
            raise NoBid("this buyer didn't give this lot back")
        books = self.books.copied()
        books.returned.pop((lot, buyer))
        self.stand(books)

    def resale(self, lot, later):
        """The later lot is the first one sold again, in place of an elder one."""
        self.check_known(lot)
        self.check_known(later)
        if later <= lot:
            raise NoLot("a lot is sold again as a later one only")
        if self.parts_of(lot) != self.parts_of(later):
            raise NoParts("these lots have unlike parts")
        books = self.books.copied()
        books.resold[lot] = later
        self.stand(books)

    def unite(self, one, other):
        """From now on the two, and whoever joined one of them, are one."""
        check_buyer(one)
        check_buyer(other)
        if one == other:
            raise NoBuyer("a buyer isn't united with themselves")
        if other in self.books.rings[one]:
            raise There("these buyers are one already")
        books = self.books.copied()
        books.join_rings(one, other)
        self.stand(books)

    def pay(self, buyer, amount):
        """A buyer pays an amount."""
        check_buyer(buyer)
        check_price(amount, 1, GREATEST_PAYMENT)
        books = self.books.copied()
        books.paid[buyer] += amount
        self.stand(books)

    def undo(self):
        """Undoes the last deed that stands."""
        if not self.past:
            raise NoUndo("no deed stands")
        self.books = self.past.pop()

    def twin(self):
        """Another sale with what stands and what can be undone."""
        other = Sale(self.ladder, self.terms)
        other.books = self.books
        other.past = list(self.past)
        return other

    def bids_of(self, lot):
        """The bids of a lot, those of buyers who are one as one."""
        self.check_known(lot)
        return self.books.joined_bids(lot)

    def chain(self, lot):
        """The chain of a lot's bids."""
        return chain_of(self.ladder, self.lot_of(lot), self.bids_of(lot))

    def holder(self, lot):
        """The tuple (buyer, price) of who has a lot, None where nobody has it."""
        return fallen_to(self.ladder, self.lot_of(lot), self.bids_of(lot), self.books.gone_from(lot))

    def losers(self, lot):
        """The tuples (buyer, price) of the chain that lose by a lot."""
        least = self.lot_of(lot)[1]
        gone = self.books.gone_from(lot)
        rows = []
        for buyer, price in self.chain(lot):
            if price < least or buyer not in gone:
                break
            rows.append((buyer, price))
        return rows

    def losses(self, lot):
        """The tuples (buyer, loss) of those who lose by a lot, in the order of the chain."""
        rows = self.losers(lot)
        if not rows:
            return []
        lower = [price for buyer, price in rows[1:]] + [self.price_instead(lot, rows[-1][1])]
        return [(buyer, price - less) for (buyer, price), less in zip(rows, lower)]

    def price_instead(self, lot, price):
        """What a lot brought instead of the price of the last who loses by it, that price where it brought more."""
        held = self.holder(lot)
        if held is None and lot in self.books.resold:
            held = self.holder(self.books.resold[lot])
        return price if held is None else min(price, held[1])

    def money(self, lot):
        """The tuple (owed, got, kept) of a lot."""
        losses = self.losses(lot)
        held = self.holder(lot)
        owed, got, kept = bill_of(self.terms, 0 if held is None else held[1])
        rows = losses if held is None else losses + [(held[0], owed)]
        lost = sum([loss for buyer, loss in losses])
        return (sorted([row for row in rows if row[1] > 0]), got + lost, kept)

    def owes(self, buyer):
        """What a buyer, and all who are one with them, owe by all lots, less what they paid."""
        ring = self.one_with(buyer)
        owed = [row for lot in range(self.lots()) for row in self.money(lot)[0]]
        return sum([amount for one, amount in owed if one in ring]) - self.books.paid_by(ring)

    def gets(self, seller):
        """All shares of a seller of what the lots' sellers get."""
        if not is_seller(seller):
            raise NoSeller("this is no seller")
        shares = [row for lot in range(self.lots()) for row in parted_along(self.parts_of(lot), self.money(lot)[1])]
        return sum([share for one, share in shares if one == seller])

    def house(self):
        """What the house keeps of all lots."""
        return sum([self.money(lot)[2] for lot in range(self.lots())])

    def lots(self):
        """How many lots there are."""
        return len(self.books.entered)

    def one_with(self, buyer):
        """The rising list of all who are one with a buyer, themselves too."""
        check_buyer(buyer)
        return list(self.books.rings[buyer])

    def lot_of(self, lot):
        """The tuple (start, least) of a lot's number."""
        self.check_known(lot)
        return self.books.entered[lot][0]

    def parts_of(self, lot):
        """The parts of a lot's number; asked only of one that there is."""
        return self.books.entered[lot][1]

    def check_place(self, lot, buyer):
        """Refuses what is no lot's number, then what is no buyer."""
        self.check_known(lot)
        check_buyer(buyer)

    def check_known(self, lot):
        """Refuses what is no lot's number."""
        if not is_within(lot, 0, self.lots() - 1):
            raise NoLot("this is no lot's number")


def check_buyer(thing):
    """Refuses what is no buyer."""
    if not is_buyer(thing):
        raise NoBuyer("this is no buyer")


def check_hour(thing):
    """Refuses what is no hour."""
    if not is_within(thing, 0, GREATEST_HOUR):
        raise NoHour(f"this is no hour from 0 to {GREATEST_HOUR}")
