"""What the other modules ask of things of whatever kind."""


def is_number(thing):
    """An int that is no truth [0.2]."""
    return isinstance(thing, int) and not isinstance(thing, bool)


def is_within(thing, low, high):
    """A number from low to high."""
    return is_number(thing) and low <= thing <= high


def is_tuple_of(thing, fewest, most):
    """A tuple of fewest to most things."""
    return isinstance(thing, tuple) and fewest <= len(thing) <= most


def is_rising(things):
    """Each is greater than the one ahead [0.5]; asked only of things that compare."""
    return all([ahead < behind for ahead, behind in zip(things, things[1:])])
