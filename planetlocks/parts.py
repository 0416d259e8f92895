"""Parts of forms, in unlike unknowns, and products of forms.

Inside of this file a form is a table, a dict from products of unknowns to numbers that are not 0.
"""

from math import gcd

from planetlocks.errors import SharedUnknown
from planetlocks.forms import form_of, need_form, need_forms, table_of, unknowns_of
from planetlocks.tables import sense_of_table


def parts(form):
    """The number and the list of Forms whose product is the form, ordered by their least unknowns; (0, []) for 0."""
    need_form(form)
    number, tables = parts_of_table(table_of(form))
    return (number, [form_of(table) for table in tables])


def product(form, other_form):
    """The product of two forms without a shared unknown."""
    need_form(form)
    need_form(other_form)
    others = unknowns_of(other_form)
    if any([unknown in others for unknown in unknowns_of(form)]):
        raise SharedUnknown("an unknown stands in both forms")
    return form_of(_times(table_of(form), table_of(other_form)))


def product_sense(forms):
    """The sense of the product of all forms of a list, also of such that share unknowns."""
    need_forms(forms)
    return sense_of_product([table_of(form) for form in forms])


def sense_of_product(tables):
    """The sense of the product of all tables of a list."""
    senses = [sense_of_table(table) for table in tables]
    if "zero" in senses:
        return "zero"
    changing = [tables[at] for at in range(len(tables)) if senses[at] == "both"]
    # The parts of one table are in unlike unknowns, so that none of them stands in it twice.
    if len(changing) == 1:
        return "both"
    splits = [parts_of_table(table) for table in changing]
    counts = _counts([part for _, found in splits for part in found if sense_of_table(part) == "both"])
    if any([count % 2 == 1 for count in counts]):
        return "both"
    # A part that is 0 somewhere is left only in pairs, and all other parts are above 0.
    falls = senses.count("minus") + len([number for number, _ in splits if number < 0])
    return ("plus" if falls % 2 == 0 else "minus") + (" or zero" if changing else "")


def parts_of_table(table):
    """The number and the parts of a table, ordered by their least unknowns.

    With the least unknown x the table is rest + slope * x. The parts without x are those that rest and slope share;
    what is left of both without these has no part in common, so that left + left * x cannot be split: it is the part
    with x.
    """
    if not table:
        return (0, [])
    firsts = [unknowns[0] for unknowns in table if unknowns]
    if not firsts:
        return (table[()], [])
    least = min(firsts)
    rest_number, rest_parts = parts_of_table(_rest(table, least))
    slope_number, slope_parts = parts_of_table(_slope(table, least))
    if rest_number == 0:
        rest_parts = slope_parts
    shared = [part for part in slope_parts if part in rest_parts]
    rest = _multiplied(rest_number, [part for part in rest_parts if part not in shared])
    slope = _multiplied(slope_number, [part for part in slope_parts if part not in shared])
    for unknowns in slope:
        rest[(least,) + unknowns] = slope[unknowns]
    number, part = _primitive(rest)
    return (number, [part] + shared)


def _rest(table, least):
    """The terms without the least unknown of the table."""
    return {unknowns: table[unknowns] for unknowns in table if least not in unknowns}


def _slope(table, least):
    """The terms with the least unknown of the table, which stands first in them, without it."""
    return {unknowns[1:]: table[unknowns] for unknowns in table if least in unknowns}


def _multiplied(number, tables):
    """The product of the number and the tables; a new table, empty if the number is 0."""
    total = {(): number} if number != 0 else {}
    for table in tables:
        total = _times(total, table)
    return total


def _times(table, other):
    """The product of two tables without a shared unknown, so that no two products of terms are alike."""
    return {tuple(sorted(one + two)): table[one] * other[two] for one in table for two in other}


def _primitive(table):
    """The number and the table of which it is a multiple: without a common divisor, its first number above 0."""
    number = 0
    for unknowns in table:
        number = gcd(number, table[unknowns])
    if table[min(list(table))] < 0:
        number = -number
    return (number, {unknowns: table[unknowns] // number for unknowns in table})


def _counts(tables):
    """How often each table stands in the list."""
    counts = {}
    for table in tables:
        key = tuple(sorted(list(table.items())))
        counts[key] = counts.get(key, 0) + 1
    return list(counts.values())
