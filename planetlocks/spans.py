"""Ranges of quotients of two forms, for all ratios."""

from planetlocks.quotients import greatest_of, least_of, lowest


def span_of(top, bottom):
    """The range (low, high) of top by bottom, None for a missing end; the sense of bottom is plus."""
    numbers = dict(top.terms)
    weights = dict(bottom.terms)
    # Where a product of unknowns outgrows the whole form below, the quotient has no end on the side of its number.
    endless = [numbers[unknowns] for unknowns in numbers if unknowns not in weights]
    ends = [lowest(numbers.get(unknowns, 0), weights[unknowns]) for unknowns in weights]
    low = None if any([number < 0 for number in endless]) else least_of(ends)
    high = None if any([number > 0 for number in endless]) else greatest_of(ends)
    return (low, high)
