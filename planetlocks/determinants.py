"""Determinants of squares of integers."""


def determinant(square):
    """The determinant of a list of rows, as many as each one is long."""
    rows = [list(row) for row in square]
    sign = 1
    before = 1
    for step in range(len(rows)):
        at = _filled_row(rows, step)
        if at is None:
            return 0
        if at != step:
            rows[step], rows[at] = rows[at], rows[step]
            sign = -sign
        for k in range(step + 1, len(rows)):
            rows[k] = _reduced(rows[k], rows[step], step, before)
        before = rows[step][step]
    return sign * before


def _filled_row(rows, step):
    """The index of the first row from step on that is not 0 in the column step."""
    for at in range(step, len(rows)):
        if rows[at][step] != 0:
            return at
    return None


def _reduced(row, lead_row, step, before):
    """The row with 0 in the column step.

    The division comes out even: each number is a minor of the square then (Bareiss), so nothing but integers is needed.
    """
    lead = lead_row[step]
    return [(row[k] * lead - row[step] * lead_row[k]) // before for k in range(len(row))]
