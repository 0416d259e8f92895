"""Loads of the works and locks of a gear, the power of locks, and freewheels in the place of locks."""

from planetlocks.boxes import need_box
from planetlocks.demands import need_index, need_inlet, need_lock, need_locks, need_told
from planetlocks.kinds import are_quotients, is_quotient
from planetlocks.motions import relations
from planetlocks.parts import sense_of_product
from planetlocks.quotients import ONE, ZERO, divided, lowest, product_of
from planetlocks.rows import difference_row, is_kept, solved
from planetlocks.spans import span_of
from planetlocks.steps import crossing, need_neighbours
from planetlocks.tables import mixed, raised, scaled
from planetlocks.trees import need_balance, need_driving, need_gear
from planetlocks.walks import gear_ways, pair_table, slip_table, ways_of, weighed


def balance(box, told, locks, inlet, outlet):
    """The torque of the outlet, the loads of the works and those of the locks; None if there is not one balance."""
    _need_told_gear(box, told, locks, inlet, outlet)
    need_balance(box, locks, 1)
    leads = solved(_torque_rows(box, told, locks, inlet, outlet))
    # The column 1 is the torque on the inlet: just it has to be left, and to tell all others.
    if 1 in leads or len(leads) != box.shafts:
        return None
    worths = [lowest(-leads[column].get(1, 0), leads[column][column]) for column in sorted(list(leads))]
    works = [product_of(worths[at + 1], (told[at][1], 1)) for at in range(len(box))]
    return (worths[0], works, worths[len(box) + 1:])


def is_balance(box, told, locks, inlet, outlet, value):
    """Whether any value has the form of a balance and is one."""
    _need_told_gear(box, told, locks, inlet, outlet)
    need_balance(box, locks, 1)
    if type(value) is not tuple or len(value) != 3 or not is_quotient(value[0]):
        return False
    _, works, others = value
    if not are_quotients(works) or not are_quotients(others):
        return False
    if len(works) != len(box) or len(others) != len(locks):
        return False
    loads = [divided(works[at], (told[at][1], 1)) for at in range(len(box))]
    worths = [ZERO, ONE, value[0]] + loads + others
    return all([is_kept(row, worths) for row in _torque_rows(box, told, locks, inlet, outlet)])


def torque_range(box, ratios, locks, inlet, outlet):
    """The range of the torque of the outlet."""
    _need_outlet_gear(box, ratios, locks, inlet, outlet)
    need_balance(box, locks, 1)
    ways = gear_ways(box, ratios, locks)
    drive = slip_table(ways, outlet, 0)
    need_driving(drive)
    return span_of(scaled(slip_table(ways, inlet, 0), -1), drive)


def load_range(box, ratios, locks, inlet, outlet, lock):
    """The range of the load of the lock."""
    _need_outlet_gear(box, ratios, locks, inlet, outlet)
    need_lock(box.shafts, locks, lock)
    need_balance(box, locks, 1)
    load, drive = _load_by_drive(_ways_without(box, ratios, locks, lock), lock, inlet, outlet)
    return span_of(load, drive)


def work_load_range(box, ratios, locks, inlet, outlet, at):
    """The range of the load of the work with this index."""
    _need_outlet_gear(box, ratios, locks, inlet, outlet)
    need_index(len(box), at)
    need_balance(box, locks, 1)
    works = weighed(box, ratios)
    options = works.pop(at)
    ways = ways_of(box.shafts, works, locks)
    drive = {}
    for difference, product, number in options:
        drive = mixed(drive, 1, raised(pair_table(ways, difference, (outlet, 0)), product), number)
    need_driving(drive)
    # A told work counts in the drive form with the denominator of its ratio, the weight of its first difference.
    return span_of(scaled(pair_table(ways, (inlet, 0), (outlet, 0)), -options[0][2]), drive)


def power_sense(box, ratios, locks, inlet, outlet, lock):
    """The sense of the power of the lock for all ratios."""
    _need_outlet_gear(box, ratios, locks, inlet, outlet)
    need_lock(box.shafts, locks, lock)
    need_balance(box, locks, 1)
    ways = _ways_without(box, ratios, locks, lock)
    drive = pair_table(ways, lock, (inlet, 0))
    need_driving(drive)
    load, outlet_drive = _load_by_drive(ways, lock, inlet, outlet)
    return sense_of_product([load, outlet_drive, pair_table(ways, lock, (lock[0], 0)), drive])


def freewheel(box, ratios, locks, other_locks, inlet, outlet):
    """The sense, for all ratios, of the load of the lock times the speed between its shafts in the other gear."""
    need_neighbours(box, ratios, locks, other_locks, inlet, outlet)
    ways, lock, other = crossing(box, ratios, locks, other_locks)
    drive = pair_table(ways, lock, (inlet, 0))
    need_driving(drive)
    load, outlet_drive = _load_by_drive(ways, lock, inlet, outlet)
    other_drive = pair_table(ways, other, (inlet, 0))
    need_driving(other_drive)
    return sense_of_product([load, outlet_drive, pair_table(ways, other, lock), other_drive])


def _need_told_gear(box, told, locks, inlet, outlet):
    need_box(box)
    need_told(len(box), told)
    need_locks(box.shafts, locks)
    need_inlet(box.shafts, inlet)
    need_inlet(box.shafts, outlet)


def _need_outlet_gear(box, ratios, locks, inlet, outlet):
    need_gear(box, ratios, locks, inlet)
    need_inlet(box.shafts, outlet)


def _torque_rows(box, told, locks, inlet, outlet):
    """For each shaft the row that says that the torques on it add up to 0.

    The column 1 is the torque on the inlet, 2 that of the outlet, then come the loads, those of the works by the
    denominators of their ratios, so that the numbers are integers.
    """
    parts = [difference_row((inlet, 0)), difference_row((outlet, 0))] + relations(box, told, locks)
    columns = range(len(parts))
    return [{at + 1: parts[at][shaft] for at in columns if shaft in parts[at]} for shaft in range(1, box.shafts + 1)]


def _ways_without(box, ratios, locks, lock):
    return gear_ways(box, ratios, [other for other in locks if other != lock])


def _load_by_drive(ways, lock, inlet, outlet):
    """The tables of which the first one by the second one is the load of the lock; the ways are those without it.

    Raises NotDriven unless the gear is driven by the outlet for all ratios.
    """
    drive = pair_table(ways, lock, (outlet, 0))
    need_driving(drive)
    return (scaled(pair_table(ways, (inlet, 0), (outlet, 0)), -1), drive)
