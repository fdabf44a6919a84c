"""What a sale was told: lots, papers, lots given back and sold again, buyers who are one, payments [6.1].

Nothing is refused here; hammersale.sale looks at all that is handed in.
"""

from hammersale.bids import GREATEST_BUYER
from hammersale.rings import as_one


class Books:
    """All that the deeds of a sale told, as it stands behind one of them."""

    def __init__(self):
        """Books in which nothing was told, so each buyer is one with themselves alone."""
        self.entered = []
        self.papers = {}
        self.returned = {}
        self.resold = {}
        self.rings = {buyer: (buyer,) for buyer in all_buyers()}
        self.paid = {buyer: 0 for buyer in all_buyers()}

    def copied(self):
        """Other books with what these tell; neither changes with the other."""
        other = Books()
        other.entered = list(self.entered)
        other.papers = {key: self.papers[key] for key in self.papers}
        other.returned = {key: self.returned[key] for key in self.returned}
        other.resold = {lot: self.resold[lot] for lot in self.resold}
        other.rings = {buyer: self.rings[buyer] for buyer in self.rings}
        other.paid = {buyer: self.paid[buyer] for buyer in self.paid}
        return other

    def join_rings(self, one, other):
        """Makes one and other, and whoever is one with one of them, one."""
        joined = tuple(sorted(self.rings[one] + self.rings[other]))
        for buyer in joined:
            self.rings[buyer] = joined

    def papers_for(self, lot):
        """The bids for a lot as they were told, by their hours, those of one hour by their buyers."""
        papers = [(buyer, self.papers[(place, buyer)]) for place, buyer in self.papers if place == lot]
        rows = sorted([(hour, buyer, bound) for buyer, (hour, bound) in papers])
        return tuple([(buyer, bound) for hour, buyer, bound in rows])

    def joined_bids(self, lot):
        """The bids for a lot, those of buyers who are one as one [6.2]."""
        bids = self.papers_for(lot)
        for buyer in self.rings:
            bids = as_one(bids, self.rings[buyer])
        return bids

    def gone_from(self, lot):
        """The rising tuple of who gave a lot back and of all who are one with them [6.3]."""
        return tuple([buyer for buyer in all_buyers() if self.has_returned(lot, self.rings[buyer])])

    def has_returned(self, lot, ring):
        """Whether one of a ring gave a lot back."""
        return any([(lot, buyer) in self.returned for buyer in ring])

    def paid_by(self, ring):
        """What those of a ring paid together."""
        return sum([self.paid[buyer] for buyer in ring])


def all_buyers():
    """The rising list of all buyers."""
    return list(range(GREATEST_BUYER + 1))
