"""Texts: numbers, ladders, parts and bids as they are written [7.1]."""

from hammersale.bids import are_bids, check_bids
from hammersale.errors import NoText
from hammersale.ladders import check_ladder, is_ladder
from hammersale.money import are_parts, check_parts

NOTHING = "none"
MOST_FIGURES = 10
STEP_SIGN = "+"
PART_SIGN = ":"
BOUND_SIGN = "="


def shown_ladder(ladder):
    """A ladder as it is written."""
    check_ladder(ladder)
    return shown_pairs(ladder, STEP_SIGN, ",")


def shown_parts(parts):
    """Parts as they are written."""
    check_parts(parts)
    return shown_pairs(parts, PART_SIGN, ",")


def shown_bids(bids):
    """Bids as they are written."""
    check_bids(bids)
    return shown_pairs(bids, BOUND_SIGN, ",")


def shown_pairs(pairs, sign, between):
    """Tuples of two numbers with a sign in them and another between them, none of no tuples."""
    if not pairs:
        return NOTHING
    return between.join([f"{left}{sign}{right}" for left, right in pairs])


def read_ladder(text):
    """The ladder that a text writes."""
    pairs = read_pairs(text, STEP_SIGN)
    if not is_ladder(pairs):
        raise NoText("this text writes no ladder")
    return pairs


def read_parts(text):
    """The parts that a text writes."""
    pairs = read_pairs(text, PART_SIGN)
    if not are_parts(pairs):
        raise NoText("this text writes no parts")
    return pairs


def read_bids(text):
    """The bids that a text writes."""
    if text == NOTHING:
        return ()
    pairs = read_pairs(text, BOUND_SIGN)
    if not are_bids(pairs):
        raise NoText("this text writes no bids")
    return pairs


def read_pairs(text, sign):
    """The tuples of two numbers that a text writes, with a sign in them and commas between them."""
    if not isinstance(text, str):
        raise NoText("this is no text")
    return tuple([read_pair(piece, sign) for piece in text.split(",")])


def read_pair(text, sign):
    """The two numbers that a text writes with a sign between them."""
    left, found, right = text.partition(sign)
    return (read_number(left), read_number(right))


def read_number(text):
    """The number that a text writes."""
    if not is_written_number(text):
        raise NoText("this text writes no number")
    return int(text)


def is_written_number(text):
    """Whether a text is a number as it is written."""
    figures = text.removeprefix("-")
    if not figures.isascii() or not figures.isdigit() or len(figures) > MOST_FIGURES:
        return False
    # Python reads noughts ahead and a nought below 0 as well, but writes neither.
    return str(int(text)) == text
