"""Ranges of quotients of two sums, for all ratios."""

from planetlocks.quotients import greatest_of, least_of, lowest
from planetlocks.tables import scaled, sense_of_table


def span_of(top, bottom):
    """The range (low, high) of one table by another one, None for a missing end; bottom has the sense plus or minus."""
    if sense_of_table(bottom) == "minus":
        return span_of(scaled(top, -1), scaled(bottom, -1))
    # Where a product of unknowns outgrows the whole sum below, the quotient has no end on the side of its number.
    endless = [top[unknowns] for unknowns in top if unknowns not in bottom]
    ends = [lowest(top.get(unknowns, 0), bottom[unknowns]) for unknowns in bottom]
    low = None if any([number < 0 for number in endless]) else least_of(ends)
    high = None if any([number > 0 for number in endless]) else greatest_of(ends)
    return (low, high)
