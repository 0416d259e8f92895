"""What the speeds of a gear are for all ratios: their ranges, and which of two shafts is surely the faster one."""

from planetlocks.demands import need_shaft, need_speed
from planetlocks.errors import NotDriven
from planetlocks.forms import sense_of
from planetlocks.spans import span_of
from planetlocks.trees import need_gear, speed_form, zero_ratios

COMPARISONS = {"plus": "faster", "zero": "same", "minus": "slower", "both": "either"}


def speed_range(box, ratios, locks, inlet, shaft):
    """The range of the speed of the shaft."""
    need_gear(box, ratios, locks, inlet)
    need_shaft(box.shafts, shaft)
    drive, form = speeds_by_drive(box, ratios, locks, inlet, [shaft])
    return span_of(form, drive)


def slip_range(box, ratios, locks, inlet, shaft, other_shaft):
    """The range of the speed of the shaft less that of the other one."""
    slip, drive = _slip(box, ratios, locks, inlet, shaft, other_shaft)
    return span_of(slip, drive)


def compared(box, ratios, locks, inlet, shaft, other_shaft):
    """Whether the shaft is faster than the other one, the same or slower for all ratios, else either."""
    slip, _ = _slip(box, ratios, locks, inlet, shaft, other_shaft)
    return COMPARISONS[sense_of(slip)]


def ratios_for(box, ratios, locks, inlet, shaft, speed):
    """Ratios, all told, with which the shaft has this speed; None if there are none."""
    need_gear(box, ratios, locks, inlet)
    need_shaft(box.shafts, shaft)
    need_speed(speed)
    drive, form = speeds_by_drive(box, ratios, locks, inlet, [shaft])
    return zero_ratios(form * speed[1] - drive * speed[0], ratios)


def sure_order(box, ratios, locks, inlet):
    """The ascending list of the tuples (a, b) of shafts of which a is surely faster than b."""
    forms = _all_speeds(box, ratios, locks, inlet)
    shafts = range(box.shafts + 1)
    return [(one, other) for one in shafts for other in shafts if sense_of(forms[one] - forms[other]) == "plus"]


def same_speeds(box, ratios, locks, inlet):
    """The ascending lists of shafts, 0 too, that have one speed for all ratios, ordered by their first shafts."""
    forms = _all_speeds(box, ratios, locks, inlet)
    groups = {}
    for shaft in range(box.shafts + 1):
        key = tuple(forms[shaft].terms)
        groups[key] = groups.get(key, []) + [shaft]
    return list(groups.values())


def speeds_by_drive(box, ratios, locks, inlet, shafts):
    """The drive form, then the forms of these shafts that, by the drive form, are their speeds.

    Raises NotDriven unless the gear is driven for all ratios. The signs are such that the drive form is above 0.
    """
    drive = speed_form(box, ratios, locks, inlet)
    sense = sense_of(drive)
    if sense not in ("plus", "minus"):
        raise NotDriven("the inlet does not drive the gear for all ratios")
    turn = 1 if sense == "plus" else -1
    return [drive * turn] + [speed_form(box, ratios, locks, shaft) * turn for shaft in shafts]


def _slip(box, ratios, locks, inlet, shaft, other_shaft):
    """The forms above and below of the speed of the shaft less that of the other one."""
    need_gear(box, ratios, locks, inlet)
    need_shaft(box.shafts, shaft)
    need_shaft(box.shafts, other_shaft)
    drive, form, other_form = speeds_by_drive(box, ratios, locks, inlet, [shaft, other_shaft])
    return (form - other_form, drive)


def _all_speeds(box, ratios, locks, inlet):
    need_gear(box, ratios, locks, inlet)
    shafts = list(range(box.shafts + 1))
    return speeds_by_drive(box, ratios, locks, inlet, shafts)[1:]
