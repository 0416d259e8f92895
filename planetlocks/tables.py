"""Tables: sums of products of unknowns in their plain form, on which the answers are reckoned.

A table is a dict from products, ascending tuples of unlike unknowns, to integers that are not 0. So the sum 0 is the
empty table. No function changes a table that it is passed.
"""

from planetlocks.quotients import ONE, divided, lowest


def gathered(terms):
    """The table of a list of tuples (product, number); a product may come again, a number may be 0."""
    totals = {}
    for unknowns, number in terms:
        totals[unknowns] = totals.get(unknowns, 0) + number
    return {unknowns: totals[unknowns] for unknowns in totals if totals[unknowns] != 0}


def scaled(table, factor):
    if factor == 0:
        return {}
    return {unknowns: table[unknowns] * factor for unknowns in table}


def raised(table, product):
    """The table times a product of unknowns that it does not have."""
    return {tuple(sorted(list(unknowns + product))): table[unknowns] for unknowns in table}


def told_worth(table):
    """The worth of a table without unknowns, an integer."""
    return table.get((), 0)


def mixed(table, factor, other, other_factor):
    """The sum of both tables, each one times its factor."""
    totals = {unknowns: table[unknowns] * factor for unknowns in table}
    for unknowns in other:
        totals[unknowns] = totals.get(unknowns, 0) + other[unknowns] * other_factor
    return {unknowns: totals[unknowns] for unknowns in totals if totals[unknowns] != 0}


def sense_of_table(table):
    """The sense of the sum for all ratios above 0: zero, plus, minus or both."""
    if not table:
        return "zero"
    if min(table.values()) > 0:
        return "plus"
    return "minus" if max(table.values()) < 0 else "both"


def unknowns_in(table):
    """The ascending list of the unknowns in the products of the table."""
    return sorted({unknown for unknowns in table for unknown in unknowns})


def rest_of(table, unknown):
    """The products without this unknown: what the sum is with 0 for it."""
    return {unknowns: table[unknowns] for unknowns in table if unknown not in unknowns}


def slope_of(table, unknown):
    """By what the sum grows if this unknown grows by 1: the products that have it, without it."""
    return {_without(unknowns, unknown): table[unknowns] for unknowns in table if unknown in unknowns}


def worth_of(table, worths):
    """The worth, where worths[k] is the worth of the unknown k.

    It is added up over one denominator, that of all unknowns together, so that all sums are of integers.
    """
    chosen = unknowns_in(table)
    total = 0
    for unknowns in table:
        part = table[unknowns]
        for unknown in chosen:
            part = part * worths[unknown][0 if unknown in unknowns else 1]
        total = total + part
    bottom = 1
    for unknown in chosen:
        bottom = bottom * worths[unknown][1]
    return lowest(total, bottom)


def raising(table, size):
    """So many fractions at which the product with the greatest number decides; None if no number is above 0.

    Each other product is at least by the factor weight less than this one, whether it lacks an unknown of it or has a
    further one; and weight times the greatest number is more than all numbers below 0 together.
    """
    most = max(table.values(), default=0)
    if most <= 0:
        return None
    chosen = [unknowns for unknowns in table if table[unknowns] == most]
    against = sum([-number for number in table.values() if number < 0])
    weight = against // most + 1
    return [(weight, 1) if unknown in chosen[0] else (1, weight) for unknown in range(size)]


def zero_of(table, size):
    """So many fractions above 0 at which the sum is 0; None if there are none."""
    if not table:
        return [ONE] * size
    if sense_of_table(table) != "both":
        return None
    near = _near_zero(table, size)
    if near is not None:
        return near
    return _between(table, raising(scaled(table, -1), size), raising(table, size))


def _near_zero(table, size):
    """Fractions at which the sum is 0, all but one of them 1; None if there are none such above 0."""
    total = sum(table.values())
    if total == 0:
        return [ONE] * size
    for unknown in unknowns_in(table):
        slope = sum([table[unknowns] for unknowns in table if unknown in unknowns])
        rest = total - slope
        if (rest < 0 < slope) or (slope < 0 < rest):
            return [ONE] * unknown + [lowest(-rest, slope)] + [ONE] * (size - unknown - 1)
    return None


def _between(table, low, high):
    """Fractions at which the sum is 0, on a way from low, where it is below 0, to high, where it is above 0.

    The way changes one worth in each step, and along a step the sum is a straight line: where it comes to 0 or
    beyond, the place of 0 is a fraction.
    """
    at = 0
    while worth_of(table, high[:at + 1] + low[at + 1:])[0] < 0:
        at += 1
    worths = high[:at] + low[at:]
    rest = worth_of(scaled(rest_of(table, at), -1), worths)
    slope = worth_of(slope_of(table, at), worths)
    return high[:at] + [divided(rest, slope)] + low[at + 1:]


def _without(unknowns, unknown):
    return tuple([other for other in unknowns if other != unknown])
