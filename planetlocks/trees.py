"""Tree forms: sums over the choices of one difference of each work that make a tree, and what they tell of gears."""

from planetlocks.boxes import first_difference, need_box, second_difference, sense_at
from planetlocks.demands import need_differences, need_inlet, need_locks, need_ratios
from planetlocks.errors import Unbalanced
from planetlocks.forms import Form, at_zero, sense_of
from planetlocks.webs import tree_sign

# A drive form without 0 drives for all ratios, one that is always 0 for none.
EXTENTS = {"plus": "all", "minus": "all", "both": "some", "zero": "none"}


def tree_form(box, ratios, locks, extra):
    """The sum of sign times weight over all choices."""
    need_box(box)
    need_ratios(len(box), ratios)
    signed = choices_of(box, locks, extra)
    weights = [_weights(box, ratios, at) for at in range(len(box))]
    return Form([_term(weights, choice, sign) for choice, sign in signed])


def choices_of(box, locks, extra):
    """The ascending list of the tuples (choice, sign) of all choices that make a tree."""
    need_box(box)
    need_locks(box.shafts, locks)
    need_differences(box.shafts, extra)
    if len(box) + len(locks) + len(extra) != box.shafts:
        raise Unbalanced("works, locks and further differences are not as many as shafts")
    pairs = [(first_difference(box, at), second_difference(box, at)) for at in range(len(box))]
    signed = [(choice, _sign(box, pairs, choice, locks + extra)) for choice in _choices(len(box))]
    return [one for one in signed if one[1] != 0]


def driven(box, ratios, locks, inlet):
    """Whether the gear is driven by the inlet for all ratios, for some or for none."""
    need_gear(box, ratios, locks, inlet)
    return EXTENTS[sense_of(speed_form(box, ratios, locks, inlet))]


def undriven(box, ratios, locks, inlet):
    """Ratios, all told, with which the gear is not driven by the inlet; None if there are none."""
    need_gear(box, ratios, locks, inlet)
    return zero_ratios(speed_form(box, ratios, locks, inlet), ratios)


def tied(box, ratios, locks):
    """Whether standing still is the only motion for all ratios, for some or for none."""
    return EXTENTS[sense_of(tree_form(box, ratios, locks, []))]


def untied(box, ratios, locks):
    """Ratios, all told, with which there is another motion than standing still; None if there are none."""
    return zero_ratios(tree_form(box, ratios, locks, []), ratios)


def speed_form(box, ratios, locks, shaft):
    """The tree form that tells the speed of the shaft, by the one of the inlet; that of the shaft 0 is 0."""
    if shaft == 0:
        return Form([])
    return tree_form(box, ratios, locks, [(shaft, 0)])


def zero_ratios(form, ratios):
    """The ratios, with the unknown ones told such that the form is 0; None if there are none such."""
    worths = at_zero(form, len(ratios))
    if worths is None:
        return None
    return [worths[at] if ratios[at] is None else ratios[at] for at in range(len(ratios))]


def need_gear(box, ratios, locks, inlet):
    """Raises the errors of these parameters."""
    need_box(box)
    need_ratios(len(box), ratios)
    need_locks(box.shafts, locks)
    need_inlet(box.shafts, inlet)


def _choices(works):
    choices = [()]
    for _ in range(works):
        choices = [choice + (pick,) for choice in choices for pick in (0, 1)]
    return choices


def _sign(box, pairs, choice, behind):
    chosen = [pairs[at][choice[at]] for at in range(len(choice))]
    return tree_sign(box.shafts, chosen + behind)


def _weights(box, ratios, at):
    """The factors of the weight for both choices of this work, each one as a term."""
    sense = sense_at(box, at)
    if ratios[at] is None:
        return (((), 1), ((at,), sense))
    return (((), ratios[at][1]), ((), sense * ratios[at][0]))


def _term(weights, choice, sign):
    unknowns = ()
    number = sign
    for at in range(len(choice)):
        factor = weights[at][choice[at]]
        unknowns = unknowns + factor[0]
        number = number * factor[1]
    return (unknowns, number)
