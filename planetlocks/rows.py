"""Rows of equations over the speeds of shafts: dicts from shafts to integers that are not 0.

A row says that the sum of its integers times the speeds of their shafts is 0. The housing has no place in a row.
"""

from math import gcd


def difference_row(difference):
    """The row of speed of the first shaft less that of the second one."""
    first, second = difference
    return {shaft: number for shaft, number in ((first, 1), (second, -1)) if shaft != 0}


def combined(row, factor, other, other_factor):
    """The sum of both rows, each one times its factor."""
    total = {shaft: factor * row[shaft] for shaft in row}
    for shaft in other:
        total[shaft] = total.get(shaft, 0) + other_factor * other[shaft]
    return {shaft: total[shaft] for shaft in total if total[shaft] != 0}


def solved(rows):
    """Rows with the same solutions, by the greatest shaft of each; no row has the greatest shaft of another one.

    So each row tells the speed of its greatest shaft by speeds of lesser shafts that no row tells.
    """
    leads = {}
    for row in rows:
        rest = _shortened(_without_leads(row, leads))
        if rest:
            leads = _with_lead(leads, rest)
    return leads


def _without_leads(row, leads):
    for shaft in list(row):
        if shaft in leads:
            row = _cleared(row, leads[shaft], shaft)
    return row


def _with_lead(leads, row):
    lead = max(list(row))
    changed = {lead: row}
    for shaft in leads:
        old = leads[shaft]
        changed[shaft] = _shortened(_cleared(old, row, lead)) if lead in old else old
    return changed


def _cleared(row, other, shaft):
    """The row with as much of the other one as takes the shaft out of it."""
    return combined(row, other[shaft], other, -row[shaft])


def _shortened(row):
    """The row without a common divisor, so that its integers stay small."""
    common = 0
    for shaft in row:
        common = gcd(common, row[shaft])
    return {shaft: row[shaft] // common for shaft in row}
