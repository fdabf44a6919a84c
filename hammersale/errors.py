"""The refusals: each straight under SaleError, none under another one."""


class SaleError(ValueError):
    """Any refusal."""


class NoLadder(SaleError):
    """What is handed in for a ladder is none."""


class NoPrice(SaleError):
    """What is handed in for a price, a bound or a sum is none, or is beyond its borders."""


class NoRung(SaleError):
    """What is handed in for a rung's number is none."""


class NoLot(SaleError):
    """What is handed in for a lot, or for a lot's number, is none."""


class NoBids(SaleError):
    """What is handed in for bids is none."""


class NoBuyers(SaleError):
    """What is handed in for a rising tuple of buyers is none."""


class NoRing(SaleError):
    """What is handed in for a ring is none."""


class NoNumber(SaleError):
    """What is handed in for how many buyers a ring has is none."""


class NoTerms(SaleError):
    """What is handed in for terms is none."""


class NoParts(SaleError):
    """What is handed in for parts is none, or two lots have unlike parts."""


class NoBuyer(SaleError):
    """What is handed in for a buyer is none."""


class NoSeller(SaleError):
    """What is handed in for a seller is none."""


class NoHour(SaleError):
    """What is handed in for an hour is none."""


class NoBid(SaleError):
    """There is no such bid, holding or giving back."""


class There(SaleError):
    """The two buyers are one already."""


class NoUndo(SaleError):
    """No deed stands that can be undone."""


class NoText(SaleError):
    """What is handed in for a text that writes something writes nothing."""


class NoLine(SaleError):
    """What is handed in for a line of the desk is none."""


class NoSale(SaleError):
    """The desk keeps no sale yet."""


class TooMany(SaleError):
    """There would be many where at most most may be."""

    def __init__(self, many, most):
        super().__init__(f"{many} are too many, at most {most} may be")
        self.many = many
        self.most = most
