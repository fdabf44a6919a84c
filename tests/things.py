"""What several tests share: odd things, borders, and how refusals and long ways are looked at."""

import copy
import inspect
import sys

from hammersale.errors import SaleError

HUGE = 10 ** 40 - 1


def wrapped(core, wrap, times):
    for turn in range(times):
        core = wrap(core)
    return core


def odd_things():
    """Made anew each time. None of them, be it a number, is what may be handed in anywhere."""
    return [
        None, True, False, HUGE, -HUGE, -1,
        "", " ", "0", "1", "none", "0+1", "\t\n", "~" * 1000,
        [], [0], [1, 1], [(0, 1)], [[0, 1]], [(0, 1)] * 100,
        {}, {0: 1}, {"floor": 0, "step": 1}, {(0, 1): None},
        ((),), ((), ()), ([],), ({},), (None,), (True,), (False, True), ("0", "1"), (None, None),
        ("ab",), ("a", "b"), ({0: 0, 1: 1},), ([0, 1],), ((0, 1), [5, 1]), ((0, 1), None), ((0, 1), 5),
        ((HUGE, HUGE),), ((0, HUGE),), ((-HUGE, 1),), (2, 1, 0), (((0, 1),),), tuple(range(100)),
        wrapped(1, lambda core: (core,), 7), wrapped((0, 1), lambda core: (core,), 6),
        wrapped(1, lambda core: [core], 7), wrapped("x", lambda core: {0: core}, 7),
        wrapped(True, lambda core: (core, core), 7),
    ]


def number_borders(low, high):
    """Numbers at the borders, and what is just beyond them."""
    return (low, high), (low - 1, high + 1)


def assert_refused(case, due, function, *handed):
    """The very class that is due, and what was handed in stays as it was."""
    before = copy.deepcopy(handed)
    with case.assertRaises(SaleError) as caught:
        function(*handed)
    case.assertIs(type(caught.exception), due, f"{function.__name__}{handed!r}")
    case.assertEqual(repr(handed), repr(before))


def assert_refuses_odd(case, due, function, handed, at):
    """Refused with due for each odd thing in the place at, whatever odd thing stands to the right of it."""
    for thing in odd_things():
        row = list(handed)
        row[at] = thing
        assert_refused(case, due, function, *row)
        for right in range(at + 1, len(row)):
            row[right] = None
        assert_refused(case, due, function, *row)


def assert_refuses_each(case, function, handed, dues):
    """Refused with the class that is due in each place, that of the one furthest to the left first."""
    function(*handed)
    for at, due in enumerate(dues):
        assert_refuses_odd(case, due, function, handed, at)


def assert_parameters(case, module, told):
    """The names of the functions, and those of what is handed in, are as the interface tells them."""
    for name, handed in told.items():
        parameters = inspect.signature(getattr(module, name)).parameters
        case.assertEqual(list(parameters), handed.split(), name)


def assert_looker(case, looker, good, bad):
    """True, and nothing that equals it, of the good; False of the bad and of each odd thing."""
    for thing in good:
        case.assertIs(looker(thing), True, repr(thing))
    for thing in bad + odd_things():
        before = repr(thing)
        case.assertIs(looker(thing), False, before)
        case.assertEqual(repr(thing), before)


def told_at_once(function, *handed, lines=5000):
    """What the function tells, if it tells it within so many lines of code."""
    left = [lines]

    def count(frame, event, arg):
        left[0] -= 1
        if left[0] < 0:
            raise AssertionError(f"{function.__name__}{handed!r} goes rung by rung")
        return count

    elder = sys.gettrace()
    sys.settrace(count)
    try:
        return function(*handed)
    finally:
        sys.settrace(elder)
