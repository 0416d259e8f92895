"""Webs: differences between shafts, the trees among them and the rings."""

from planetlocks.demands import need_differences, need_shafts
from planetlocks.determinants import determinant
from planetlocks.kinds import is_between, is_integer, is_pair
from planetlocks.rows import difference_row


def is_tree(shafts, differences):
    """Whether there are as many differences as shafts and they join all shafts, 0 too."""
    _need_web(shafts, differences)
    return len(differences) == shafts and len(_paths_from(0, differences)) == shafts + 1


def tree_sign(shafts, differences):
    """The determinant of the differences, without the column of 0, if there are as many as shafts, else 0."""
    _need_web(shafts, differences)
    if len(differences) != shafts:
        return 0
    return determinant(_full_rows(shafts, differences))


def holding_order(shafts, differences):
    """The indexes of a tree in an order in which each difference has just one new shaft; None if it is no tree."""
    if not is_tree(shafts, differences):
        return None
    paths = _paths_from(0, differences)
    return [paths[shaft][-1][0] for shaft in paths if shaft != 0]


def judge_order(shafts, differences, value):
    """Whether any value is a list as of holding_order."""
    if not is_tree(shafts, differences) or type(value) is not list or len(value) != shafts:
        return False
    reached = {0: True}
    for at in value:
        if not is_between(at, 0, shafts - 1):
            return False
        fresh = [shaft for shaft in differences[at] if shaft not in reached]
        if len(fresh) != 1:
            return False
        reached[fresh[0]] = True
    return True


def ring_of(shafts, differences):
    """Some differences, with signs, that add up to nothing, as tuples (index, sign); None if there are none."""
    _need_web(shafts, differences)
    for at in range(len(differences)):
        first, second = differences[at]
        paths = _paths_from(first, differences[:at])
        if second in paths:
            return sorted(paths[second] + [(at, 1)])
    return None


def judge_ring(shafts, differences, value):
    """Whether any value is a list as of ring_of."""
    _need_web(shafts, differences)
    if type(value) is not list or len(value) == 0:
        return False
    if not all([_is_signed_index(len(differences), part) for part in value]):
        return False
    ascending = all([value[k - 1][0] < value[k][0] for k in range(1, len(value))])
    return ascending and _adds_up_to_nothing(differences, value)


def apart(shafts, differences):
    """The ascending list of the shafts that are not joined with 0."""
    _need_web(shafts, differences)
    reached = _paths_from(0, differences)
    return [shaft for shaft in range(1, shafts + 1) if shaft not in reached]


def tree_count(shafts, differences):
    """How many sets of indexes have differences that make a tree."""
    _need_web(shafts, differences)
    if len(differences) < shafts:
        return 0
    rows = _full_rows(shafts, differences)
    columns = range(shafts)
    return determinant([[sum([row[k] * row[m] for row in rows]) for m in columns] for k in columns])


def tree_sets(shafts, differences):
    """The ascending list of the sets of indexes whose differences make a tree, as ascending tuples."""
    _need_web(shafts, differences)
    if len(differences) < shafts:
        return []
    states = [((), list(range(shafts + 1)))]
    for _ in range(shafts):
        states = [grown for state in states for grown in _grown(differences, state)]
    return [state[0] for state in states]


def _need_web(shafts, differences):
    need_shafts(shafts)
    need_differences(shafts, differences)


def _paths_from(start, differences):
    """For each shaft that is joined with the start, in the order in which they are reached, how to come to it.

    That is a list of tuples (index, sign) whose differences, with signs, add up to the shaft less the start.
    """
    paths = {start: []}
    step = _next_step(paths, differences)
    while step is not None:
        known, fresh, at, sign = step
        paths[fresh] = paths[known] + [(at, sign)]
        step = _next_step(paths, differences)
    return paths


def _next_step(reached, differences):
    """The first difference with one reached shaft: that shaft, the other one, the index, the sign; None without one."""
    for at in range(len(differences)):
        first, second = differences[at]
        if first in reached and second not in reached:
            return (first, second, at, -1)
        if second in reached and first not in reached:
            return (second, first, at, 1)
    return None


def _full_rows(shafts, differences):
    """The rows of the determinant: the columns 1 to the number of shafts of each difference."""
    rows = [difference_row(difference) for difference in differences]
    return [[row.get(shaft, 0) for shaft in range(1, shafts + 1)] for row in rows]


def _is_signed_index(count, value):
    if not is_pair(value) or not is_between(value[0], 0, count - 1):
        return False
    return is_integer(value[1]) and value[1] in (1, -1)


def _adds_up_to_nothing(differences, signed):
    totals = {}
    for at, sign in signed:
        first, second = differences[at]
        totals[first] = totals.get(first, 0) + sign
        totals[second] = totals.get(second, 0) - sign
    return all([total == 0 for total in totals.values()])


def _grown(differences, state):
    """The states with one more index behind, but only such that can still become a tree.

    A state is a tuple: the chosen indexes, and a list with a number for each shaft, one number for shafts they join.
    """
    chosen, groups = state
    start = chosen[-1] + 1 if chosen else 0
    states = []
    for at in range(start, len(differences)):
        joined = _joined(groups, differences[at])
        if joined != groups and _all_join(joined, differences[at + 1:]):
            states.append((chosen + (at,), joined))
    return states


def _joined(groups, difference):
    """The groups with those of both shafts as one; the same groups if they are one already."""
    kept, dropped = groups[difference[0]], groups[difference[1]]
    return [kept if group == dropped else group for group in groups]


def _all_join(groups, differences):
    for difference in differences:
        groups = _joined(groups, difference)
    return all([group == groups[0] for group in groups])
