"""Ratios told by looks at the speeds of a box, and the looks that tell them."""

from planetlocks.boxes import ends_of, need_box
from planetlocks.demands import need_gears, need_inlet, need_looks, need_ratios, need_shaft, need_speed
from planetlocks.errors import Contradiction, NotTelling
from planetlocks.parts import parts_of_table
from planetlocks.quotients import ZERO, difference_of, divided, product_of
from planetlocks.ranges import driven_ways, wished_ratios
from planetlocks.tables import unknowns_in
from planetlocks.trees import need_gear
from planetlocks.walks import slip_table


def told_by(box, looks):
    """The list of the ratios that the looks tell: None where the second difference of the work is 0 in all looks."""
    need_box(box)
    need_looks(box.shafts, looks)
    told = [None] * len(box)
    for at in range(len(looks)):
        locks, speeds = looks[at]
        if not all([speeds[lock[0]] == speeds[lock[1]] for lock in locks]):
            raise Contradiction(at)
        told = [_told_with(box.works[k], told[k], speeds, at) for k in range(len(box))]
    return told


def depends(box, ratios, locks, inlet, shaft):
    """The ascending list of the works with unknown ratios on which the speed of the shaft hangs."""
    need_gear(box, ratios, locks, inlet)
    need_shaft(box.shafts, shaft)
    ways, drive = driven_ways(box, ratios, locks, inlet)
    return _unlike_unknowns(slip_table(ways, shaft, 0), drive)


def ratio_from(box, ratios, locks, inlet, shaft, speed):
    """The ratio of the one work on which the speed of the shaft hangs with which it is this speed; None without one."""
    need_gear(box, ratios, locks, inlet)
    need_shaft(box.shafts, shaft)
    need_speed(speed)
    ways, drive = driven_ways(box, ratios, locks, inlet)
    form = slip_table(ways, shaft, 0)
    unknowns = _unlike_unknowns(form, drive)
    if len(unknowns) != 1:
        raise NotTelling("the speed does not hang on just one unknown ratio")
    # The other ratios change nothing, so that each list with this speed has the one ratio that gives it.
    wished = wished_ratios(form, drive, ratios, speed)
    return None if wished is None else wished[unknowns[0]]


def look_plan(box, ratios, gears, inlet):
    """The list of tuples (index of a gear, shaft, work): looks of which each one tells just one more ratio."""
    need_box(box)
    need_ratios(len(box), ratios)
    need_gears(box.shafts, gears)
    need_inlet(box.shafts, inlet)
    looks = []
    for at in range(len(gears)):
        ways, drive = driven_ways(box, ratios, gears[at], inlet)
        for shaft in range(1, box.shafts + 1):
            looks.append((at, shaft, _unlike_unknowns(slip_table(ways, shaft, 0), drive)))
    plan = []
    known = []
    step = _telling_look(looks, known)
    while step is not None:
        plan.append(step)
        known.append(step[2])
        step = _telling_look(looks, known)
    return plan


def _told_with(work, ratio, speeds, at):
    """The ratio of a work behind the look with the index at; ratio is what the looks ahead tell, or None."""
    first, second, sense = ends_of(work)
    top = difference_of(speeds[first[0]], speeds[first[1]])
    bottom = difference_of(speeds[second[0]], speeds[second[1]])
    if bottom == ZERO:
        if top != ZERO:
            raise Contradiction(at)
        return ratio
    seen = product_of(divided(top, bottom), (-sense, 1))
    if seen[0] <= 0 or ratio not in (None, seen):
        raise Contradiction(at)
    return seen


def _unlike_unknowns(form, drive):
    """The ascending list of the unknowns on which one table by the other one hangs.

    A part of both falls out. What is left has no part in common, so that each unknown in it changes the quotient.
    """
    if not form:
        return []
    _, tops = parts_of_table(form)
    _, bottoms = parts_of_table(drive)
    unlike = [part for part in tops if part not in bottoms] + [part for part in bottoms if part not in tops]
    return sorted({unknown for part in unlike for unknown in unknowns_in(part)})


def _telling_look(looks, known):
    """The first look that hangs on just one work that is not known, as (index of its gear, shaft, work), or None."""
    for at, shaft, unknowns in looks:
        fresh = [unknown for unknown in unknowns if unknown not in known]
        if len(fresh) == 1:
            return (at, shaft, fresh[0])
    return None
