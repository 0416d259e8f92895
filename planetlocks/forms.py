"""Forms: sums of terms, each an integer times a product of unlike unknowns."""

from planetlocks.demands import need_number, need_ratio
from planetlocks.errors import InvalidForm, InvalidNumber, InvalidRatios
from planetlocks.kinds import are_quotients, are_terms, is_integer
from planetlocks.quotients import ONE, ZERO, divided, greatest_of, is_less, least_of, lowest


class Form:
    """A sum of terms (unknowns, number); a form never changes."""

    def __init__(self, terms):
        if not are_terms(terms):
            raise InvalidForm("a list of tuples of ascending unknowns and a number is due")
        self._terms = _gathered(terms)

    @property
    def terms(self):
        return list(self._terms)

    def __len__(self):
        return len(self._terms)

    def __iter__(self):
        return iter(self._terms)

    def __eq__(self, other):
        return isinstance(other, Form) and self._terms == other._terms

    def __add__(self, other):
        if not isinstance(other, Form):
            raise InvalidForm("only a form can be added to a form")
        return Form(list(self._terms + other._terms))

    def __sub__(self, other):
        if not isinstance(other, Form):
            raise InvalidForm("only a form can be taken from a form")
        return Form(list(self._terms) + [(unknowns, -number) for unknowns, number in other._terms])

    def __neg__(self):
        return Form([(unknowns, -number) for unknowns, number in self._terms])

    def __mul__(self, other):
        if not is_integer(other):
            raise InvalidNumber("a form can be multiplied only by an integer")
        return Form([(unknowns, number * other) for unknowns, number in self._terms])

    def __call__(self, worths):
        """The worth of the form, where worths[k] is the worth of the unknown k."""
        unknowns = unknowns_of(self)
        if not are_quotients(worths) or not all([unknown < len(worths) for unknown in unknowns]):
            raise InvalidRatios("a list with a fraction for each unknown of the form is due")
        return _worth(self, unknowns, worths)


def sense_of(form):
    """The sense of the form for all ratios above 0: zero, plus, minus or both."""
    need_form(form)
    if len(form) == 0:
        return "zero"
    signs = [number > 0 for _, number in form]
    if all(signs):
        return "plus"
    return "both" if any(signs) else "minus"


def unknowns_of(form):
    """The ascending list of the unknowns in the terms of the form."""
    need_form(form)
    return sorted({unknown for unknowns, _ in form for unknown in unknowns})


def above(form, size):
    """So many fractions above 0 at which the form is above 0; None if there are none."""
    _need_room(form, size)
    return _raising(form, size)


def below(form, size):
    """So many fractions above 0 at which the form is below 0; None if there are none."""
    _need_room(form, size)
    return _raising(-form, size)


def at_zero(form, size):
    """So many fractions above 0 at which the form is 0; None if there are none."""
    _need_room(form, size)
    if len(form) == 0:
        return [ONE] * size
    low = _raising(-form, size)
    high = _raising(form, size)
    if low is None or high is None:
        return None
    return _between(form, low, high)


def with_told(form, unknown, ratio):
    """The form with the ratio (p, q) for this unknown, times q."""
    need_form(form)
    need_number(unknown)
    need_ratio(ratio)
    return rest_of(form, unknown) * ratio[1] + slope_of(form, unknown) * ratio[0]


def never_below(form, unknown):
    """The least and the greatest ratio with which, told for this unknown, the form is never below 0.

    The least one is (0, 1) if there is none, the greatest one None if there is none; None if there are no such ratios.
    """
    need_form(form)
    need_number(unknown)
    lines = _lines(form, unknown)
    if any([start < 0 and slope == 0 for start, slope in lines]):
        return None
    low = greatest_of([ZERO] + [lowest(-start, slope) for start, slope in lines if slope > 0])
    ends = [lowest(start, -slope) for start, slope in lines if slope < 0]
    if not ends:
        return (low, None)
    high = least_of(ends)
    if high[0] <= 0 or is_less(high, low):
        return None
    return (low, high)


def rest_of(form, unknown):
    """The form without the terms that have this unknown: what it is with 0 for it."""
    return Form([(unknowns, number) for unknowns, number in form if unknown not in unknowns])


def slope_of(form, unknown):
    """By what the form grows if this unknown grows by 1: the terms that have it, without it."""
    return Form([(_without(unknowns, unknown), number) for unknowns, number in form if unknown in unknowns])


def need_form(form):
    """Raises InvalidForm unless the argument is a Form."""
    if not isinstance(form, Form):
        raise InvalidForm("a form is due")


def need_forms(forms):
    """Raises InvalidForm unless the argument is a list of Forms."""
    if type(forms) is not list or not all([isinstance(form, Form) for form in forms]):
        raise InvalidForm("a list of forms is due")


def _need_room(form, size):
    need_form(form)
    need_number(size)
    if not all([unknown < size for unknown in unknowns_of(form)]):
        raise InvalidNumber("a size above each unknown of the form is due")


def _gathered(terms):
    """The ascending terms, each product of unknowns once, without those with the number 0."""
    totals = {}
    for unknowns, number in terms:
        totals[unknowns] = totals.get(unknowns, 0) + number
    return tuple(sorted([(unknowns, totals[unknowns]) for unknowns in totals if totals[unknowns] != 0]))


def _without(unknowns, unknown):
    return tuple([other for other in unknowns if other != unknown])


def _worth(form, unknowns, worths):
    """The worth, added up over one denominator, that of all unknowns together, so that all sums are of integers."""
    total = 0
    for chosen, number in form:
        part = number
        for unknown in unknowns:
            part = part * worths[unknown][0 if unknown in chosen else 1]
        total = total + part
    bottom = 1
    for unknown in unknowns:
        bottom = bottom * worths[unknown][1]
    return lowest(total, bottom)


def _raising(form, size):
    """So many fractions at which the term with the greatest number decides; None if no number is above 0.

    Each other product of unknowns is at least by the factor weight less than that of this term, whether it lacks an
    unknown of it or has a further one; and weight times the greatest number is more than all numbers below 0 together.
    """
    most = max([number for _, number in form], default=0)
    if most <= 0:
        return None
    chosen = [unknowns for unknowns, number in form if number == most][0]
    against = sum([-number for _, number in form if number < 0])
    weight = against // most + 1
    return [(weight, 1) if unknown in chosen else (1, weight) for unknown in range(size)]


def _between(form, low, high):
    """Fractions at which the form is 0, on a way from low, where it is below 0, to high, where it is above 0.

    The way changes one worth in each step, and along a step the form is a straight line: where it comes to 0 or
    beyond, the place of 0 is a fraction.
    """
    at = 0
    while form(high[:at + 1] + low[at + 1:])[0] < 0:
        at += 1
    worths = high[:at] + low[at:]
    rest = rest_of(-form, at)
    slope = slope_of(form, at)
    return high[:at] + [divided(rest(worths), slope(worths))] + low[at + 1:]


def _lines(form, unknown):
    """For each product of the other unknowns the tuple (start, slope): its number is start + slope * this unknown."""
    starts = dict(rest_of(form, unknown).terms)
    slopes = dict(slope_of(form, unknown).terms)
    products = sorted(set(list(starts) + list(slopes)))
    return [(starts.get(unknowns, 0), slopes.get(unknowns, 0)) for unknowns in products]
