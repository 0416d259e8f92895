"""What the speeds of a gear are for all ratios: their ranges, and which of two shafts is surely the faster one."""

from planetlocks.demands import need_shaft, need_speed
from planetlocks.spans import span_of
from planetlocks.tables import mixed, scaled, sense_of_table
from planetlocks.trees import need_balance, need_driving, need_gear, zero_ratios
from planetlocks.walks import gear_ways, slip_table

COMPARISONS = {"plus": "faster", "zero": "same", "minus": "slower", "both": "either"}


def speed_range(box, ratios, locks, inlet, shaft):
    """The range of the speed of the shaft."""
    need_gear(box, ratios, locks, inlet)
    need_shaft(box.shafts, shaft)
    ways, drive = driven_ways(box, ratios, locks, inlet)
    return span_of(slip_table(ways, shaft, 0), drive)


def slip_range(box, ratios, locks, inlet, shaft, other_shaft):
    """The range of the speed of the shaft less that of the other one."""
    slip, drive = _slip(box, ratios, locks, inlet, shaft, other_shaft)
    return span_of(slip, drive)


def compared(box, ratios, locks, inlet, shaft, other_shaft):
    """Whether the shaft is faster than the other one, the same or slower for all ratios, else either."""
    slip, _ = _slip(box, ratios, locks, inlet, shaft, other_shaft)
    return COMPARISONS[sense_of_table(slip)]


def ratios_for(box, ratios, locks, inlet, shaft, speed):
    """Ratios, all told, with which the shaft has this speed; None if there are none."""
    need_gear(box, ratios, locks, inlet)
    need_shaft(box.shafts, shaft)
    need_speed(speed)
    ways, drive = driven_ways(box, ratios, locks, inlet)
    return wished_ratios(slip_table(ways, shaft, 0), drive, ratios, speed)


def sure_order(box, ratios, locks, inlet):
    """The ascending list of the tuples (a, b) of shafts of which a is surely faster than b."""
    need_gear(box, ratios, locks, inlet)
    ways, _ = driven_ways(box, ratios, locks, inlet)
    shafts = range(box.shafts + 1)
    pairs = [(one, other) for one in shafts for other in shafts]
    return [pair for pair in pairs if sense_of_table(slip_table(ways, pair[0], pair[1])) == "plus"]


def same_speeds(box, ratios, locks, inlet):
    """The ascending lists of shafts, 0 too, that have one speed for all ratios, ordered by their first shafts."""
    need_gear(box, ratios, locks, inlet)
    ways, _ = driven_ways(box, ratios, locks, inlet)
    groups = {}
    for shaft in range(box.shafts + 1):
        key = tuple(sorted(list(slip_table(ways, shaft, 0).items())))
        groups[key] = groups.get(key, []) + [shaft]
    return list(groups.values())


def driven_ways(box, ratios, locks, inlet):
    """The ways of a gear and its drive form, as a table, both with such signs that the drive form is above 0.

    Raises Unbalanced unless it is a gear, then NotDriven unless it is driven for all ratios.
    """
    need_balance(box, locks, 1)
    ways = gear_ways(box, ratios, locks)
    drive = slip_table(ways, inlet, 0)
    need_driving(drive)
    if sense_of_table(drive) == "plus":
        return (ways, drive)
    return ([(product, -number, groups) for product, number, groups in ways], scaled(drive, -1))


def wished_ratios(form, drive, ratios, speed):
    """The ratios, all told, at which one table by the other one is this speed; None if there are none."""
    return zero_ratios(mixed(form, speed[1], drive, -speed[0]), ratios)


def _slip(box, ratios, locks, inlet, shaft, other_shaft):
    """The table that, by the drive form, is the speed of the shaft less that of the other one, and the drive form."""
    need_gear(box, ratios, locks, inlet)
    need_shaft(box.shafts, shaft)
    need_shaft(box.shafts, other_shaft)
    ways, drive = driven_ways(box, ratios, locks, inlet)
    return (slip_table(ways, shaft, other_shaft), drive)
