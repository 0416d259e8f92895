"""Forms: sums of terms, each an integer times a product of unlike unknowns."""

from planetlocks.demands import need_number, need_ratio
from planetlocks.errors import InvalidForm, InvalidNumber, InvalidRatios
from planetlocks.kinds import are_quotients, are_terms, is_integer
from planetlocks.quotients import ZERO, greatest_of, is_less, least_of, lowest
from planetlocks.tables import (
    gathered,
    mixed,
    raising,
    rest_of,
    scaled,
    sense_of_table,
    slope_of,
    unknowns_in,
    worth_of,
    zero_of,
)


class Form:
    """A sum of terms (unknowns, number); a form never changes."""

    def __init__(self, terms):
        if not are_terms(terms):
            raise InvalidForm("a list of tuples of ascending unknowns and a number is due")
        self._terms = _ascending(gathered(terms))

    @property
    def terms(self):
        return list(self._terms)

    def __len__(self):
        return len(self._terms)

    def __iter__(self):
        return iter(self._terms)

    def __eq__(self, other):
        return isinstance(other, Form) and self._terms == other._terms

    def __add__(self, other):
        if not isinstance(other, Form):
            raise InvalidForm("only a form can be added to a form")
        return form_of(mixed(table_of(self), 1, table_of(other), 1))

    def __sub__(self, other):
        if not isinstance(other, Form):
            raise InvalidForm("only a form can be taken from a form")
        return form_of(mixed(table_of(self), 1, table_of(other), -1))

    def __neg__(self):
        return form_of(scaled(table_of(self), -1))

    def __mul__(self, other):
        if not is_integer(other):
            raise InvalidNumber("a form can be multiplied only by an integer")
        return form_of(scaled(table_of(self), other))

    def __call__(self, worths):
        """The worth of the form, where worths[k] is the worth of the unknown k."""
        table = table_of(self)
        if not are_quotients(worths) or not all([unknown < len(worths) for unknown in unknowns_in(table)]):
            raise InvalidRatios("a list with a fraction for each unknown of the form is due")
        return worth_of(table, worths)


def form_of(table):
    """The form that is this table."""
    form = Form([])
    # What is set here is a table already, so nothing of it has to be looked at again.
    form._terms = _ascending(table)
    return form


def table_of(form):
    """The form as a table, in the order of its terms."""
    return dict(form._terms)


def sense_of(form):
    """The sense of the form for all ratios above 0: zero, plus, minus or both."""
    need_form(form)
    return sense_of_table(table_of(form))


def unknowns_of(form):
    """The ascending list of the unknowns in the terms of the form."""
    need_form(form)
    return unknowns_in(table_of(form))


def above(form, size):
    """So many fractions above 0 at which the form is above 0; None if there are none."""
    _need_room(form, size)
    return raising(table_of(form), size)


def below(form, size):
    """So many fractions above 0 at which the form is below 0; None if there are none."""
    _need_room(form, size)
    return raising(scaled(table_of(form), -1), size)


def at_zero(form, size):
    """So many fractions above 0 at which the form is 0; None if there are none."""
    _need_room(form, size)
    return zero_of(table_of(form), size)


def with_told(form, unknown, ratio):
    """The form with the ratio (p, q) for this unknown, times q."""
    need_form(form)
    need_number(unknown)
    need_ratio(ratio)
    table = table_of(form)
    return form_of(mixed(rest_of(table, unknown), ratio[1], slope_of(table, unknown), ratio[0]))


def never_below(form, unknown):
    """The least and the greatest ratio with which, told for this unknown, the form is never below 0.

    The least one is (0, 1) if there is none, the greatest one None if there is none; None if there are no such ratios.
    """
    need_form(form)
    need_number(unknown)
    lines = _lines(table_of(form), unknown)
    if any([start < 0 and slope == 0 for start, slope in lines]):
        return None
    low = greatest_of([ZERO] + [lowest(-start, slope) for start, slope in lines if slope > 0])
    ends = [lowest(start, -slope) for start, slope in lines if slope < 0]
    if not ends:
        return (low, None)
    high = least_of(ends)
    if high[0] <= 0 or is_less(high, low):
        return None
    return (low, high)


def need_form(form):
    """Raises InvalidForm unless the argument is a Form."""
    if not isinstance(form, Form):
        raise InvalidForm("a form is due")


def need_forms(forms):
    """Raises InvalidForm unless the argument is a list of Forms."""
    if type(forms) is not list or not all([isinstance(form, Form) for form in forms]):
        raise InvalidForm("a list of forms is due")


def _need_room(form, size):
    need_form(form)
    need_number(size)
    if not all([unknown < size for unknown in unknowns_of(form)]):
        raise InvalidNumber("a size above each unknown of the form is due")


def _ascending(table):
    return tuple(sorted(list(table.items())))


def _lines(table, unknown):
    """For each product of the other unknowns the tuple (start, slope): its number is start + slope * this unknown."""
    starts = rest_of(table, unknown)
    slopes = slope_of(table, unknown)
    products = sorted(set(list(starts) + list(slopes)))
    return [(starts.get(unknowns, 0), slopes.get(unknowns, 0)) for unknowns in products]
