"""Splits: boxes that two inlets drive together, and the shares of both in the speed of a shaft."""

from planetlocks.boxes import need_box
from planetlocks.demands import need_inlet, need_other_inlet, need_shaft, need_told
from planetlocks.errors import NotTelling
from planetlocks.quotients import lowest
from planetlocks.spans import span_of
from planetlocks.tables import mixed, scaled, sense_of_table, told_worth
from planetlocks.trees import extent_of, need_balance, need_driving, need_gear, zero_ratios
from planetlocks.walks import gear_ways, pair_table


def split_driven(box, ratios, locks, inlet, other_inlet):
    """Whether both inlets drive the box for all ratios, for some or for none."""
    return extent_of(_drive(box, ratios, locks, inlet, other_inlet))


def unsplit(box, ratios, locks, inlet, other_inlet):
    """Ratios, all told, with which both inlets do not drive the box; None if there are none."""
    return zero_ratios(_drive(box, ratios, locks, inlet, other_inlet), ratios)


def shares(box, told, locks, inlet, other_inlet, shaft):
    """The tuple of both shares of the shaft; None if both inlets do not drive the box."""
    need_box(box)
    need_told(len(box), told)
    _need_split(box, told, locks, inlet, other_inlet)
    need_shaft(box.shafts, shaft)
    need_balance(box, locks, 2)
    share, other, drive = [told_worth(table) for table in _share_tables(box, told, locks, inlet, other_inlet, shaft)]
    if drive == 0:
        return None
    return (lowest(share, drive), lowest(other, drive))


def share_range(box, ratios, locks, inlet, other_inlet, shaft):
    """The range of the first share of the shaft."""
    share, _, drive = _shares_by_drive(box, ratios, locks, inlet, other_inlet, shaft)
    return span_of(share, drive)


def sum_range(box, ratios, locks, inlet, other_inlet, shaft):
    """The range of the sum of both shares of the shaft."""
    share, other, drive = _shares_by_drive(box, ratios, locks, inlet, other_inlet, shaft)
    return span_of(mixed(share, 1, other, 1), drive)


def blend(box, ratios, locks, inlet, other_inlet, shaft):
    """Whether the speed of the shaft is between those of the inlets for all ratios, against one of them, or either."""
    share, other, drive = _shares_by_drive(box, ratios, locks, inlet, other_inlet, shaft)
    senses = [sense_of_table(share), sense_of_table(other)]
    if "plus" in senses and "minus" in senses:
        return "against"
    apart = mixed(mixed(share, 1, other, 1), 1, drive, -1)
    falling = "minus" in senses or "both" in senses
    return "either" if falling or apart else "between"


def rest_range(box, ratios, locks, inlet, other_inlet, shaft):
    """The range of the speed of the other inlet with which the shaft stands while the inlet has the speed 1."""
    share, other, _ = _shares_by_drive(box, ratios, locks, inlet, other_inlet, shaft)
    _need_one_sign(other)
    return span_of(scaled(share, -1), other)


def torque_split(box, ratios, locks, inlet, other_inlet, outlet):
    """The range of the torque of the other inlet with the torque 1 on the inlet."""
    _need_split(box, ratios, locks, inlet, other_inlet)
    need_inlet(box.shafts, outlet)
    share, other, _ = _shares_by_drive(box, ratios, locks, inlet, other_inlet, outlet)
    _need_one_sign(share)
    return span_of(other, share)


def _need_split(box, ratios, locks, inlet, other_inlet):
    need_gear(box, ratios, locks, inlet)
    need_other_inlet(box.shafts, inlet, other_inlet)


def _drive(box, ratios, locks, inlet, other_inlet):
    """The tree form that is not 0 where both inlets drive the box, as a table."""
    _need_split(box, ratios, locks, inlet, other_inlet)
    need_balance(box, locks, 2)
    return pair_table(gear_ways(box, ratios, locks), (inlet, 0), (other_inlet, 0))


def _share_tables(box, ratios, locks, inlet, other_inlet, shaft):
    """The tables of both shares of the shaft, then the one by which they are divided."""
    ways = gear_ways(box, ratios, locks)
    pairs = [(shaft, other_inlet), (inlet, shaft), (inlet, other_inlet)]
    return [pair_table(ways, (one, 0), (other, 0)) for one, other in pairs]


def _shares_by_drive(box, ratios, locks, inlet, other_inlet, shaft):
    """The tables of the shares and the drive form, which is above 0.

    Raises the errors of the parameters, then Unbalanced, then NotDriven.
    """
    _need_split(box, ratios, locks, inlet, other_inlet)
    need_shaft(box.shafts, shaft)
    need_balance(box, locks, 2)
    tables = _share_tables(box, ratios, locks, inlet, other_inlet, shaft)
    need_driving(tables[2])
    turn = 1 if sense_of_table(tables[2]) == "plus" else -1
    return [scaled(table, turn) for table in tables]


def _need_one_sign(share):
    if sense_of_table(share) not in ("plus", "minus"):
        raise NotTelling("the share is not above 0 for all ratios, and not below 0 for all")
