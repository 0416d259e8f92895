"""Plans: the gears that a box has with some offered locks, and the rows of sure steps through them."""

from planetlocks.boxes import need_box
from planetlocks.demands import need_inlet, need_locks, need_ratios
from planetlocks.kinds import is_between
from planetlocks.ranges import driven_ways
from planetlocks.steps import are_neighbours, step_sense
from planetlocks.tables import sense_of_table
from planetlocks.trees import driven
from planetlocks.walks import slip_table

KINDS = {"plus": "forward", "minus": "back", "zero": "still", "both": "either"}


def gears_of(box, ratios, offered, inlet):
    """The ascending list of the lists of offered locks with which the inlet drives the box for all ratios."""
    _need_plan(box, ratios, offered, inlet)
    return _gears(box, ratios, offered, inlet)


def kinds_of(box, ratios, offered, inlet, outlet):
    """For each gear how it turns the outlet: forward, back or still for all ratios, else either."""
    _need_outlet_plan(box, ratios, offered, inlet, outlet)
    kinds = []
    for gear in _gears(box, ratios, offered, inlet):
        ways, _ = driven_ways(box, ratios, gear, inlet)
        kinds.append(KINDS[sense_of_table(slip_table(ways, outlet, 0))])
    return kinds


def sure_steps(box, ratios, offered, inlet, outlet):
    """The ascending list of the tuples of indexes of gears with a sure step from the first to the second one."""
    _need_outlet_plan(box, ratios, offered, inlet, outlet)
    return _steps(box, ratios, _gears(box, ratios, offered, inlet), inlet, outlet)


def levels(box, ratios, offered, inlet, outlet):
    """For each gear the greatest number of sure steps in a row that end at it."""
    _need_outlet_plan(box, ratios, offered, inlet, outlet)
    heights, _ = _climb(box, ratios, offered, inlet, outlet)
    return heights


def longest_ladder(box, ratios, offered, inlet, outlet):
    """A list of indexes of gears with sure steps from each to the next one, as long as can be."""
    _need_outlet_plan(box, ratios, offered, inlet, outlet)
    heights, steps = _climb(box, ratios, offered, inlet, outlet)
    if not heights:
        return []
    rungs = [heights.index(max(heights))]
    while heights[rungs[0]] > 0:
        below = [low for low, high in steps if high == rungs[0] and heights[low] == heights[high] - 1]
        rungs = [below[0]] + rungs
    return rungs


def judge_ladder(box, ratios, offered, inlet, outlet, value):
    """Whether any value is a list as of longest_ladder."""
    _need_outlet_plan(box, ratios, offered, inlet, outlet)
    heights, steps = _climb(box, ratios, offered, inlet, outlet)
    if type(value) is not list or not all([is_between(at, 0, len(heights) - 1) for at in value]):
        return False
    if len(value) != max(heights, default=-1) + 1:
        return False
    return all([(value[at - 1], value[at]) in steps for at in range(1, len(value))])


def _need_plan(box, ratios, offered, inlet):
    need_box(box)
    need_ratios(len(box), ratios)
    need_locks(box.shafts, offered)
    need_inlet(box.shafts, inlet)


def _need_outlet_plan(box, ratios, offered, inlet, outlet):
    _need_plan(box, ratios, offered, inlet)
    need_inlet(box.shafts, outlet)


def _gears(box, ratios, offered, inlet):
    lists = _selections(offered, box.shafts - 1 - len(box))
    return [locks for locks in lists if driven(box, ratios, locks, inlet) == "all"]


def _selections(locks, size):
    """The ascending list of the lists of so many of the locks; none if there are not so many, or size is below 0."""
    if size < 0 or size > len(locks):
        return []
    if size == 0:
        return [[]]
    with_first = [locks[:1] + rest for rest in _selections(locks[1:], size - 1)]
    return with_first + _selections(locks[1:], size)


def _steps(box, ratios, gears, inlet, outlet):
    """The sure steps between the gears, as of sure_steps."""
    found = []
    for at in range(len(gears)):
        for other in range(at):
            if not are_neighbours(gears[at], gears[other]):
                continue
            sense = step_sense(box, ratios, gears[at], gears[other], inlet, outlet)
            if sense == "plus":
                found.append((at, other))
            # What surely falls on the one way surely rises on the way back.
            if sense == "minus":
                found.append((other, at))
    return sorted(found)


def _climb(box, ratios, offered, inlet, outlet):
    """The levels of the gears, and the sure steps between them."""
    gears = _gears(box, ratios, offered, inlet)
    steps = _steps(box, ratios, gears, inlet, outlet)
    heights = [0] * len(gears)
    # No row of sure steps leads back to a gear, so that none has as many steps as there are gears.
    for _ in gears:
        heights = [max([heights[low] + 1 for low, high in steps if high == at], default=0) for at in range(len(gears))]
    return (heights, steps)
