"""Ladders and their rungs [1.1, 1.2]."""

from hammersale.checks import is_rising, is_tuple_of, is_within
from hammersale.errors import NoLadder, NoPrice, NoRung

MOST_FLOORS = 4
GREATEST_FLOOR = 10 ** 6
GREATEST_STEP = 10 ** 5
GREATEST_BOUND = 10 ** 6
GREATEST_PRICE = 10 ** 20
GREATEST_RUNG = 10 ** 9


def is_ladder(thing):
    """Whether anything is a ladder."""
    if not is_tuple_of(thing, 1, MOST_FLOORS):
        return False
    if not all([is_floor_and_step(pair) for pair in thing]):
        return False
    floors = [floor for floor, step in thing]
    return floors[0] == 0 and is_rising(floors)


def is_floor_and_step(thing):
    """Whether anything may be one tuple of a ladder."""
    if not is_tuple_of(thing, 2, 2):
        return False
    return is_within(thing[0], 0, GREATEST_FLOOR) and is_within(thing[1], 1, GREATEST_STEP)


def price_behind(ladder, price):
    """The price behind a price."""
    check_ladder(ladder)
    check_price(price, 0, GREATEST_PRICE)
    steps = [step for floor, step in ladder if floor <= price]
    return price + steps[-1]


def price_at(ladder, start, rung):
    """The price of a rung."""
    check_ladder(ladder)
    check_price(start, 1, GREATEST_BOUND)
    check_rung(rung)
    reached = [flight for flight in flights_of(ladder, start) if flight[0] <= rung]
    first, price, step = reached[-1]
    return price + (rung - first) * step


def last_rung(ladder, start, bound):
    """The last rung whose price isn't greater than bound, None where start is."""
    check_ladder(ladder)
    check_price(start, 1, GREATEST_BOUND)
    check_price(bound, 1, GREATEST_BOUND)
    reached = [flight for flight in flights_of(ladder, start) if flight[1] <= bound]
    if not reached:
        return None
    first, price, step = reached[-1]
    return first + (bound - price) // step


def flights_of(ladder, start):
    """The tuples (rung, price, step), one for each floor: its step is due from that rung on.

    A floor that no rung uses has a flight too, with the rung of the next one;
    so whoever looks for the flight of a rung or a price takes the last that fits.
    """
    rung = 0
    price = start
    going = ladder[0][1]
    flights = []
    for floor, step in ladder:
        if price < floor:
            # The step that crosses the floor is still the elder one, so it counts full.
            moves = (floor - price + going - 1) // going
            rung += moves
            price += moves * going
        flights.append((rung, price, step))
        going = step
    return flights


def check_ladder(thing):
    """Refuses what is no ladder."""
    if not is_ladder(thing):
        raise NoLadder("this is no ladder")


def check_price(thing, low, high):
    """Refuses what is no number from low to high, as a price."""
    if not is_within(thing, low, high):
        raise NoPrice(f"this is no price from {low} to {high}")


def check_rung(thing):
    """Refuses what is no rung's number."""
    if not is_within(thing, 0, GREATEST_RUNG):
        raise NoRung(f"this is no rung from 0 to {GREATEST_RUNG}")
