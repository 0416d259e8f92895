"""Tree forms: sums over the choices of one difference of each work that make a tree, and what they tell of gears."""

from planetlocks.boxes import ends_of, need_box
from planetlocks.demands import need_differences, need_inlet, need_locks, need_ratios
from planetlocks.errors import NotDriven, Unbalanced
from planetlocks.forms import form_of
from planetlocks.tables import sense_of_table, zero_of
from planetlocks.walks import gear_ways, slip_table, total_table, ways_of, weighed

# A drive form without 0 drives for all ratios, one that is always 0 for none.
EXTENTS = {"plus": "all", "minus": "all", "both": "some", "zero": "none"}


def tree_form(box, ratios, locks, extra):
    """The sum of sign times weight over all choices."""
    need_box(box)
    need_ratios(len(box), ratios)
    _need_rows(box, locks, extra)
    return form_of(total_table(ways_of(box.shafts, weighed(box, ratios), locks + extra)))


def choices_of(box, locks, extra):
    """The ascending list of the tuples (choice, sign) of all choices that make a tree."""
    need_box(box)
    _need_rows(box, locks, extra)
    ends = [ends_of(work) for work in box.works]
    # What stands in the place of the products is the choice itself, and the senses are no part of the sign.
    options = [((first, (0,), 1), (second, (1,), 1)) for first, second, _ in ends]
    return [(choice, sign) for choice, sign, _ in ways_of(box.shafts, options, locks + extra)]


def driven(box, ratios, locks, inlet):
    """Whether the gear is driven by the inlet for all ratios, for some or for none."""
    return extent_of(_drive(box, ratios, locks, inlet))


def undriven(box, ratios, locks, inlet):
    """Ratios, all told, with which the gear is not driven by the inlet; None if there are none."""
    return zero_ratios(_drive(box, ratios, locks, inlet), ratios)


def tied(box, ratios, locks):
    """Whether standing still is the only motion for all ratios, for some or for none."""
    return extent_of(_tie(box, ratios, locks))


def untied(box, ratios, locks):
    """Ratios, all told, with which there is another motion than standing still; None if there are none."""
    return zero_ratios(_tie(box, ratios, locks), ratios)


def extent_of(table):
    """Whether the sum is unlike 0 for all ratios, for some or for none."""
    return EXTENTS[sense_of_table(table)]


def zero_ratios(table, ratios):
    """The ratios, with the unknown ones told such that the sum is 0; None if there are none such."""
    worths = zero_of(table, len(ratios))
    if worths is None:
        return None
    return [worths[at] if ratios[at] is None else ratios[at] for at in range(len(ratios))]


def need_gear(box, ratios, locks, inlet):
    """Raises the errors of these parameters."""
    need_box(box)
    need_ratios(len(box), ratios)
    need_locks(box.shafts, locks)
    need_inlet(box.shafts, inlet)


def need_balance(box, locks, rest):
    """Raises Unbalanced unless works and locks are by rest fewer than shafts."""
    if len(box) + len(locks) != box.shafts - rest:
        raise Unbalanced("the numbers of works and locks do not fit the number of shafts")


def need_driving(drive):
    """Raises NotDriven unless this drive form, a table, is not 0 for all ratios."""
    if extent_of(drive) != "all":
        raise NotDriven("the gear is not driven for all ratios")


def _need_rows(box, locks, extra):
    need_locks(box.shafts, locks)
    need_differences(box.shafts, extra)
    need_balance(box, locks, len(extra))


def _drive(box, ratios, locks, inlet):
    """The drive form, as a table."""
    need_gear(box, ratios, locks, inlet)
    need_balance(box, locks, 1)
    return slip_table(gear_ways(box, ratios, locks), inlet, 0)


def _tie(box, ratios, locks):
    need_box(box)
    need_ratios(len(box), ratios)
    need_locks(box.shafts, locks)
    need_balance(box, locks, 0)
    return total_table(gear_ways(box, ratios, locks))
