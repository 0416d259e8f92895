"""What values are: integers, fractions, differences, locks, works and lists of them.

Each function takes any value and tells whether it is of a kind. True and False are no integers, and objects of the
package may stand anywhere in a value, so the plain kind of each part is looked at before the part is compared.
"""

from math import gcd

PLANET_WORDS = ("planet", "double")
WHEEL_WORDS = ("pair", "band")


def is_integer(value):
    return type(value) is int


def is_between(value, least, greatest):
    return is_integer(value) and least <= value <= greatest


def is_from_zero(value):
    return is_integer(value) and value >= 0


def is_pair(value):
    return type(value) is tuple and len(value) == 2


def is_difference(shafts, value):
    return is_pair(value) and all([is_between(part, 0, shafts) for part in value]) and value[0] != value[1]


def is_lock(shafts, value):
    return is_difference(shafts, value) and value[0] > value[1]


def are_differences(shafts, value):
    return type(value) is list and all([is_difference(shafts, part) for part in value])


def are_locks(shafts, value):
    """Whether the value is a list of locks, ascending, each once."""
    if type(value) is not list or not all([is_lock(shafts, part) for part in value]):
        return False
    return all([value[at - 1] < value[at] for at in range(1, len(value))])


def are_gears(shafts, value):
    return type(value) is list and all([are_locks(shafts, part) for part in value])


def is_one_work(shafts, value):
    if type(value) is not tuple or len(value) < 3 or type(value[0]) is not str:
        return False
    if value[0] in PLANET_WORDS:
        return len(value) == 4 and _are_unlike(value[1:], 0, shafts)
    return value[0] in WHEEL_WORDS and len(value) == 3 and _are_unlike(value[1:], 1, shafts)


def _are_unlike(parts, least, greatest):
    """Whether the parts are integers in these bounds, none of them twice."""
    return all([is_between(part, least, greatest) for part in parts]) and len(set(parts)) == len(parts)


def are_works(shafts, value):
    return type(value) is list and all([is_one_work(shafts, part) for part in value])


def is_quotient(value):
    """Whether the value is a fraction in lowest terms with a denominator from 1 on."""
    if not is_pair(value) or not is_integer(value[0]) or not is_integer(value[1]):
        return False
    return value[1] >= 1 and gcd(value[0], value[1]) == 1


def are_quotients(value):
    return type(value) is list and all([is_quotient(part) for part in value])


def is_above_zero(value):
    return is_quotient(value) and value[0] > 0


def are_told(works, value):
    """Whether the value is a list with a fraction above 0 for each of so many works."""
    return type(value) is list and len(value) == works and all([is_above_zero(part) for part in value])


def are_ratios(works, value):
    """Whether the value is a list with a fraction above 0 or None for each of so many works."""
    if type(value) is not list or len(value) != works:
        return False
    return all([part is None or is_above_zero(part) for part in value])


def are_speeds(shafts, value):
    """Whether the value is a list of fractions, one for each shaft from 0 on, the first one 0."""
    return are_quotients(value) and len(value) == shafts + 1 and value[0] == (0, 1)


def are_looks(shafts, value):
    """Whether the value is a list of tuples of locks and the speeds of all shafts."""
    return type(value) is list and all([_is_look(shafts, part) for part in value])


def _is_look(shafts, value):
    return is_pair(value) and are_locks(shafts, value[0]) and are_speeds(shafts, value[1])


def is_shaft_order(shafts, value):
    """Whether the value is a tuple with each shaft from 1 on once."""
    return type(value) is tuple and len(value) == shafts and _are_unlike(value, 1, shafts)


def are_terms(value):
    """Whether the value is a list of tuples (unknowns, number); the number may be 0, unknowns may come again."""
    return type(value) is list and all([_is_term(part) for part in value])


def _is_term(value):
    return is_pair(value) and _are_unknowns(value[0]) and is_integer(value[1])


def _are_unknowns(value):
    """Whether the value is an ascending tuple of unlike integers from 0 on."""
    if type(value) is not tuple or not all([is_from_zero(part) for part in value]):
        return False
    return all([value[at - 1] < value[at] for at in range(1, len(value))])
