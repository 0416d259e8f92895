"""Steps: how the speed of an outlet changes from a gear to a neighbour, a gear with one other lock."""

from planetlocks.boxes import need_box
from planetlocks.demands import need_gears, need_inlet, need_locks, need_ratios, need_shafts, need_told
from planetlocks.errors import NotNeighbours
from planetlocks.forms import form_of
from planetlocks.parts import sense_of_product
from planetlocks.quotients import lowest
from planetlocks.tables import told_worth
from planetlocks.trees import need_balance, need_driving
from planetlocks.walks import gear_ways, pair_table


def changed(shafts, locks, other_locks):
    """The tuple (lock, other lock) in which two neighbours differ."""
    need_shafts(shafts)
    need_locks(shafts, locks)
    need_locks(shafts, other_locks)
    return _exchange(locks, other_locks)


def step_forms(box, ratios, locks, other_locks, inlet, outlet):
    """Both forms whose product, by the drive forms of both gears, is the step."""
    need_neighbours(box, ratios, locks, other_locks, inlet, outlet)
    ways, lock, other = crossing(box, ratios, locks, other_locks)
    return (form_of(pair_table(ways, other, lock)), form_of(_turning(ways, inlet, outlet)))


def step_sense(box, ratios, locks, other_locks, inlet, outlet):
    """The sense, for all ratios, of the step from the gear to its neighbour."""
    need_neighbours(box, ratios, locks, other_locks, inlet, outlet)
    return _sense_of_step(box, ratios, locks, other_locks, inlet, outlet)


def step_at(box, told, locks, other_locks, inlet, outlet):
    """The step at told ratios, a fraction."""
    need_box(box)
    need_told(len(box), told)
    need_neighbours(box, told, locks, other_locks, inlet, outlet)
    tables = _step_tables(box, told, locks, other_locks, inlet, outlet)
    exchange, turning, drive, other_drive = [told_worth(table) for table in tables]
    return lowest(exchange * turning, drive * other_drive)


def ladder(box, ratios, gears, inlet, outlet):
    """The list of the senses of the steps from each gear to the next one."""
    need_box(box)
    need_ratios(len(box), ratios)
    need_gears(box.shafts, gears)
    need_inlet(box.shafts, inlet)
    need_inlet(box.shafts, outlet)
    pairs = [(gears[at - 1], gears[at]) for at in range(1, len(gears))]
    return [_sense_of_step(box, ratios, locks, other_locks, inlet, outlet) for locks, other_locks in pairs]


def need_neighbours(box, ratios, locks, other_locks, inlet, outlet):
    """Raises the errors of these parameters."""
    need_box(box)
    need_ratios(len(box), ratios)
    need_locks(box.shafts, locks)
    need_locks(box.shafts, other_locks)
    need_inlet(box.shafts, inlet)
    need_inlet(box.shafts, outlet)


def crossing(box, ratios, locks, other_locks):
    """The ways with the common locks of two neighbours, then the lock of the one and that of the other gear.

    Raises Unbalanced for the one, then for the other gear, then NotNeighbours.
    """
    need_balance(box, locks, 1)
    need_balance(box, other_locks, 1)
    lock, other = _exchange(locks, other_locks)
    return (gear_ways(box, ratios, [common for common in locks if common != lock]), lock, other)


def are_neighbours(locks, other_locks):
    return len(_only_in(locks, other_locks)) == 1 and len(_only_in(other_locks, locks)) == 1


def _exchange(locks, other_locks):
    if not are_neighbours(locks, other_locks):
        raise NotNeighbours("the gears do not differ by just one lock")
    return (_only_in(locks, other_locks)[0], _only_in(other_locks, locks)[0])


def _only_in(locks, other_locks):
    return [lock for lock in locks if lock not in other_locks]


def _turning(ways, inlet, outlet):
    """What the speed of the outlet hangs on while neither lock is on; 0 if it is the inlet."""
    return pair_table(ways, (outlet, 0), (inlet, 0))


def _step_tables(box, ratios, locks, other_locks, inlet, outlet):
    """The tables whose product has the sense of the step: both factors of the step, then both drive forms."""
    ways, lock, other = crossing(box, ratios, locks, other_locks)
    drives = [pair_table(ways, one, (inlet, 0)) for one in (lock, other)]
    for drive in drives:
        need_driving(drive)
    return [pair_table(ways, other, lock), _turning(ways, inlet, outlet)] + drives


def _sense_of_step(box, ratios, locks, other_locks, inlet, outlet):
    return sense_of_product(_step_tables(box, ratios, locks, other_locks, inlet, outlet))
