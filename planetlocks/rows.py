"""Rows of equations: dicts from columns, integers from 1 on, to integers that are not 0.

A row says that the sum of its integers times what stands in their columns is 0. For motions these are the speeds of
the shafts, and the housing has no place in a row; for loads they are torques.
"""

from math import gcd


def difference_row(difference):
    """The row of speed of the first shaft less that of the second one."""
    first, second = difference
    return {shaft: number for shaft, number in ((first, 1), (second, -1)) if shaft != 0}


def combined(row, factor, other, other_factor):
    """The sum of both rows, each one times its factor."""
    total = {column: factor * row[column] for column in row}
    for column in other:
        total[column] = total.get(column, 0) + other_factor * other[column]
    return {column: total[column] for column in total if total[column] != 0}


def is_kept(row, worths):
    """Whether the row holds, where worths[k] is the fraction in the place of the column k."""
    top = 0
    bottom = 1
    for column in row:
        worth = worths[column]
        top = top * worth[1] + row[column] * worth[0] * bottom
        bottom = bottom * worth[1]
    return top == 0


def solved(rows):
    """Rows with the same solutions, by the greatest column of each; no row has the greatest column of another one.

    So each row tells what stands in its greatest column by lesser columns that no row tells.
    """
    leads = {}
    for row in rows:
        rest = _shortened(_without_leads(row, leads))
        if rest:
            leads = _with_lead(leads, rest)
    return leads


def _without_leads(row, leads):
    for column in list(row):
        if column in leads:
            row = _cleared(row, leads[column], column)
    return row


def _with_lead(leads, row):
    lead = max(list(row))
    changed = {lead: row}
    for column in leads:
        old = leads[column]
        changed[column] = _shortened(_cleared(old, row, lead)) if lead in old else old
    return changed


def _cleared(row, other, column):
    """The row with as much of the other one as takes the column out of it."""
    return combined(row, other[column], other, -row[column])


def _shortened(row):
    """The row without a common divisor, so that its integers stay small."""
    common = 0
    for column in row:
        common = gcd(common, row[column])
    return {column: row[column] // common for column in row}
