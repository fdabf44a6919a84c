"""The desk: a sale told and asked by lines [7.2, 7.3]."""

from hammersale.errors import NoLine, NoSale
from hammersale.sale import Sale
from hammersale.texts import BOUND_SIGN, NOTHING, read_ladder, read_number, read_parts, shown_bids, shown_pairs

DONE = "ok"
NEW_SALE = "sale"

# What the words behind the first one write: L a ladder, P parts, N a number.
FORMS = {
    "sale": "LNN", "enter": "NNP", "bid": "NNNN", "strike": "NN", "back": "NN", "keep": "NN", "resale": "NN",
    "join": "NN", "pay": "NN", "undo": "", "bids": "N", "holder": "N", "chain": "N", "losses": "N", "owes": "N",
    "gets": "N", "house": "",
}


def enter_lot(sale, start, least, parts):
    """The line enter."""
    return str(sale.enter(start, least, parts))


def tell_bid(sale, lot, buyer, hour, bound):
    """The line bid."""
    sale.bid(lot, buyer, hour, bound)
    return DONE


def strike_bid(sale, lot, buyer):
    """The line strike."""
    sale.strike(lot, buyer)
    return DONE


def give_lot_back(sale, lot, buyer):
    """The line back."""
    sale.give_back(lot, buyer)
    return DONE


def keep_lot(sale, lot, buyer):
    """The line keep."""
    sale.keep(lot, buyer)
    return DONE


def sell_again(sale, lot, later):
    """The line resale."""
    sale.resale(lot, later)
    return DONE


def join_buyers(sale, one, other):
    """The line join."""
    sale.unite(one, other)
    return DONE


def take_payment(sale, buyer, amount):
    """The line pay."""
    sale.pay(buyer, amount)
    return DONE


def undo_deed(sale):
    """The line undo."""
    sale.undo()
    return DONE


def show_bids(sale, lot):
    """The line bids."""
    return shown_bids(sale.bids_of(lot))


def show_holder(sale, lot):
    """The line holder."""
    held = sale.holder(lot)
    return NOTHING if held is None else f"{held[0]} {held[1]}"


def show_chain(sale, lot):
    """The line chain."""
    return shown_pairs(sale.chain(lot), BOUND_SIGN, " ")


def show_losses(sale, lot):
    """The line losses."""
    return shown_pairs(sale.losses(lot), BOUND_SIGN, " ")


def show_owed(sale, buyer):
    """The line owes."""
    return str(sale.owes(buyer))


def show_got(sale, seller):
    """The line gets."""
    return str(sale.gets(seller))


def show_kept(sale):
    """The line house."""
    return str(sale.house())


ACTIONS = {
    "enter": enter_lot, "bid": tell_bid, "strike": strike_bid, "back": give_lot_back, "keep": keep_lot,
    "resale": sell_again, "join": join_buyers, "pay": take_payment, "undo": undo_deed, "bids": show_bids,
    "holder": show_holder, "chain": show_chain, "losses": show_losses, "owes": show_owed, "gets": show_got,
    "house": show_kept,
}


class Desk:
    """A desk that keeps a sale, at first none."""

    def __init__(self):
        self.sale = None

    def say(self, line):
        """Answers a line."""
        first, *rest = words_of(line)
        if self.sale is None and first != NEW_SALE:
            raise NoSale("there is no sale yet")
        handed = [read_word(kind, word) for kind, word in zip(FORMS[first], rest)]
        if first == NEW_SALE:
            return self.begin(*handed)
        action = ACTIONS[first]
        return action(self.sale, *handed)

    def begin(self, ladder, premium, commission):
        """The line sale: a new sale, in place of an elder one."""
        self.sale = Sale(ladder, (premium, commission))
        return DONE


def words_of(line):
    """The words of a line, the first one known and as many behind it as it has."""
    if not isinstance(line, str):
        raise NoLine("this is no text")
    words = line.split(" ")
    if "" in words:
        raise NoLine("there is not one blank between each two words")
    if words[0] not in FORMS:
        raise NoLine("no line has this first word")
    if len(words) - 1 != len(FORMS[words[0]]):
        raise NoLine("this line has another number of words")
    return words


def read_word(kind, word):
    """What a word of a kind of FORMS writes."""
    if kind == "L":
        return read_ladder(word)
    if kind == "P":
        return read_parts(word)
    return read_number(word)
