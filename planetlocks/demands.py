"""The errors of the parameters: each function raises one unless its argument is of the kind that is due."""

from planetlocks.errors import (
    InvalidDifferences,
    InvalidFraction,
    InvalidGears,
    InvalidIndex,
    InvalidLock,
    InvalidLocks,
    InvalidLooks,
    InvalidNumber,
    InvalidOrder,
    InvalidRatios,
    InvalidShaft,
    InvalidShafts,
    InvalidSpeeds,
)
from planetlocks.kinds import (
    are_differences,
    are_gears,
    are_locks,
    are_looks,
    are_ratios,
    are_speeds,
    are_told,
    is_above_zero,
    is_between,
    is_difference,
    is_from_zero,
    is_integer,
    is_quotient,
    is_shaft_order,
)


def need_shafts(shafts):
    if not is_integer(shafts) or shafts < 1:
        raise InvalidShafts("the number of shafts is an integer from 1 on")


def need_differences(shafts, differences):
    if not are_differences(shafts, differences):
        raise InvalidDifferences("a list of tuples of two unlike shafts is due")


def need_locks(shafts, locks):
    if not are_locks(shafts, locks):
        raise InvalidLocks("an ascending list of locks, each once, is due")


def need_gears(shafts, gears):
    if not are_gears(shafts, gears):
        raise InvalidGears("a list of lists of locks is due")


def need_lock(shafts, locks, lock):
    # What is no difference may be equal to a lock all the same: (True, 0) is equal to (1, 0).
    if not is_difference(shafts, lock) or lock not in locks:
        raise InvalidLock("one of the locks is due")


def need_index(works, at):
    if not is_between(at, 0, works - 1):
        raise InvalidIndex("the index of a work of the box is due")


def need_inlet(shafts, inlet):
    if not is_between(inlet, 1, shafts):
        raise InvalidShaft("a shaft from 1 on is due")


def need_shaft(shafts, shaft):
    if not is_between(shaft, 0, shafts):
        raise InvalidShaft("a shaft from 0 on is due")


def need_other_inlet(shafts, inlet, other_inlet):
    if not is_between(other_inlet, 1, shafts) or other_inlet == inlet:
        raise InvalidShaft("another shaft from 1 on is due")


def need_order(shafts, order):
    if not is_shaft_order(shafts, order):
        raise InvalidOrder("a tuple with each shaft from 1 on once is due")


def need_ratios(works, ratios):
    if not are_ratios(works, ratios):
        raise InvalidRatios("a list with None or a fraction above 0 for each work is due")


def need_told(works, told):
    if not are_told(works, told):
        raise InvalidRatios("a list with a fraction above 0 for each work is due")


def need_ratio(ratio):
    if not is_above_zero(ratio):
        raise InvalidFraction("a fraction above 0 is due")


def need_speed(speed):
    if not is_quotient(speed):
        raise InvalidFraction("a fraction is due")


def need_speeds(shafts, speeds):
    if not are_speeds(shafts, speeds):
        raise InvalidSpeeds("a list with a fraction for each shaft, the first one 0, is due")


def need_looks(shafts, looks):
    if not are_looks(shafts, looks):
        raise InvalidLooks("a list of tuples of locks and speeds is due")


def need_number(number):
    if not is_from_zero(number):
        raise InvalidNumber("an integer from 0 on is due")
