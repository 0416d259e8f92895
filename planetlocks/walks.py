"""Walks through the choices of one difference of each work that make no ring.

A walk joins shafts to groups, difference by difference. Each group has a number, without gaps: 0 is the group of the
housing, and of two groups that become one the lesser number is kept. So the numbers of the groups above 0 are the
columns that are left of the determinant behind the differences so far: one that joins two groups is a row that has,
once the column of the greater one is added to that of the lesser one, only its entry in the column of the greater
one. No determinant has to be reckoned for each choice anew.

A way is what one choice comes to: a tuple (product, number, groups). The product has the unknowns of the weight, the
number is the rest of the weight with the sign, and groups is a list of the number of the group of each shaft.
"""

from planetlocks.boxes import ends_of
from planetlocks.tables import gathered


def weighed(box, ratios):
    """For each work both options, tuples (difference, product, number): a difference with its weight."""
    found = []
    for at in range(len(box)):
        first, second, sense = ends_of(box.works[at])
        if ratios[at] is None:
            found.append(((first, (), 1), (second, (at,), sense)))
        else:
            found.append(((first, (), ratios[at][1]), (second, (), sense * ratios[at][0])))
    return found


def ways_of(shafts, works, fixed):
    """The ways of all choices of one option of each work that make no ring with the fixed differences behind them."""
    # The fixed differences leave less to choose if they come first: the sign is that of the exchange.
    ways = [((), -1 if len(works) * len(fixed) % 2 == 1 else 1, list(range(shafts + 1)))]
    for difference in fixed:
        ways = _extended(ways, ((difference, (), 1),))
    for options in works:
        ways = _extended(ways, options)
    return ways


def gear_ways(box, ratios, locks):
    """The ways of a box with these locks."""
    return ways_of(box.shafts, weighed(box, ratios), locks)


def total_table(ways):
    """The tree form of ways that join all shafts."""
    return gathered([(product, number) for product, number, _ in ways])


def slip_table(ways, shaft, other):
    """The tree form with the further difference (shaft, other), of ways that leave two groups; 0 if both are one."""
    terms = [(product, number if groups[shaft] == 1 else -number)
             for product, number, groups in ways if groups[shaft] != groups[other]]
    return gathered(terms)


def pair_table(ways, difference, other):
    """The tree form with these two further differences, of ways that leave three groups.

    A difference may also have one shaft twice: it stands for a speed that is always 0.
    """
    terms = []
    for product, number, groups in ways:
        one, two = _columns(groups, difference)
        three, four = _columns(groups, other)
        terms.append((product, number * (one * four - two * three)))
    return gathered(terms)


def _extended(ways, options):
    """The ways with one more difference, that of each option that makes no ring with those so far."""
    found = []
    for product, number, groups in ways:
        for difference, more, factor in options:
            first, second = groups[difference[0]], groups[difference[1]]
            if first == second:
                continue
            low, high = (second, first) if first > second else (first, second)
            # The entry is 1 for the first shaft and -1 for the second one, the column high the high-th that is left.
            sign = 1 if (first > second) == (high % 2 == 1) else -1
            joined = [low if group == high else group - 1 if group > high else group for group in groups]
            found.append((product + more, number * factor * sign, joined))
    return found


def _columns(groups, difference):
    """The entries of a difference in the columns of the groups 1 and 2."""
    first, second = groups[difference[0]], groups[difference[1]]
    return (int(first == 1) - int(second == 1), int(first == 2) - int(second == 2))
