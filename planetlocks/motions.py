"""Motions of a box with told ratios and any number of locks."""

from planetlocks.boxes import first_difference, need_box, second_difference, sense_at
from planetlocks.demands import need_inlet, need_locks, need_speeds, need_told
from planetlocks.quotients import ONE, ZERO, divided, lowest
from planetlocks.rows import combined, difference_row, is_kept, solved


def holds(box, told, locks, speeds):
    """Whether the speeds are a motion."""
    _need_held_box(box, told, locks)
    need_speeds(box.shafts, speeds)
    return all([is_kept(row, speeds) for row in relations(box, told, locks)])


def freedom(box, told, locks):
    """The least number of motions from which all others come by sums and multiples."""
    _need_held_box(box, told, locks)
    return box.shafts - len(solved(relations(box, told, locks)))


def motions(box, told, locks):
    """For each free shaft, ascending, the motion with the speed 1 at it and 0 at all other free shafts."""
    _need_held_box(box, told, locks)
    leads = solved(relations(box, told, locks))
    return [_motion_of(box, leads, shaft) for shaft in _free_shafts(box, leads)]


def speeds_of(box, told, locks, inlet):
    """The motion with the speed 1 at the inlet if there is just one, else None."""
    _need_held_box(box, told, locks)
    need_inlet(box.shafts, inlet)
    leads = solved(relations(box, told, locks))
    if box.shafts - len(leads) != 1:
        return None
    motion = _motion_of(box, leads, _free_shafts(box, leads)[0])
    if motion[inlet] == ZERO:
        return None
    return [divided(speed, motion[inlet]) for speed in motion]


def still(box, told, locks):
    """The ascending list of all shafts, 0 too, whose speed is 0 in each motion."""
    _need_held_box(box, told, locks)
    leads = solved(relations(box, told, locks))
    return [0] + [shaft for shaft in sorted(list(leads)) if len(leads[shaft]) == 1]


def alike(box, told, locks):
    """The ascending lists of shafts, 0 too, that have one speed in each motion, ordered by their first shafts."""
    base = motions(box, told, locks)
    groups = {}
    for shaft in range(box.shafts + 1):
        key = tuple([motion[shaft] for motion in base])
        groups[key] = groups.get(key, []) + [shaft]
    return list(groups.values())


def _need_held_box(box, told, locks):
    need_box(box)
    need_told(len(box), told)
    need_locks(box.shafts, locks)


def relations(box, told, locks):
    """The rows that all motions keep: those of the works, then those of the locks."""
    works = [_work_row(box, at, told[at]) for at in range(len(box))]
    return works + [difference_row(lock) for lock in locks]


def _work_row(box, at, ratio):
    """first + sense * ratio * second, times the denominator of the ratio."""
    first = difference_row(first_difference(box, at))
    second = difference_row(second_difference(box, at))
    return combined(first, ratio[1], second, sense_at(box, at) * ratio[0])


def _free_shafts(box, leads):
    """The ascending list of the shafts whose speed the lesser shafts do not tell."""
    return [shaft for shaft in range(1, box.shafts + 1) if shaft not in leads]


def _motion_of(box, leads, free):
    """The motion with the speed 1 at this free shaft and 0 at all other ones."""
    speeds = [ZERO] * (box.shafts + 1)
    speeds[free] = ONE
    for shaft in leads:
        row = leads[shaft]
        speeds[shaft] = lowest(-row.get(free, 0), row[shaft])
    return speeds
