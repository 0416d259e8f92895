"""Values of every kind that may stand where an error is listed for a parameter."""

from planetlocks.boxes import Box
from planetlocks.errors import BoxError, Contradiction
from planetlocks.forms import Form


def nested(make, depth):
    value = 1
    for _ in range(depth):
        value = make([value])
    return value


def any_values():
    """Integers, strings, None, truths, tuples and lists, nested and long, and objects of the package; new each time."""
    return [
        0, 1, -1, 2, 3, 9, 10 ** 39, -10 ** 39,
        "", "1", "planet", "3 planet 1 2 3", "~" * 50,
        None, True, False,
        (), (0,), (1, 1), (0, 1), (1, 0), (2, 0), (True, False), ("planet", 1, 2, 3), (None, None), ([], []),
        (Box(1, []), Box(1, [])), tuple(range(400)), nested(tuple, 12),
        [], [0], [1, 0], [None], [True], [()], [[]], [(0, 1)], [(1, 0)], [(1, 1)], ["pair", 1, 2], [Box(2, [])],
        [(1, 0, 0)], [(True, False)], [(1, [0])], [[1, 0]], ["10"], list(range(400)), [[]] * 400, nested(list, 12),
        Box(1, []), Box(3, [("planet", 1, 2, 3)]), BoxError("words"), Contradiction(2),
        Form([]), Form([((0,), 1), ((), -2)]), [Form([])], (Form([]), Form([])), [(Form([]), 0)], [[Form([])]],
    ]
