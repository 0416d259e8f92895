"""Plain and slow answers, straight from the words of the document, to hold the package against."""

from fractions import Fraction
from itertools import permutations, product


def determinant(square):
    total = 0
    for order in permutations(range(len(square))):
        worth = -1 if sum(a > b for k, a in enumerate(order) for b in order[k + 1:]) % 2 else 1
        for row, column in enumerate(order):
            worth *= square[row][column]
        total += worth
    return total


def difference_row(shafts, difference):
    row = [0] * (shafts + 1)
    row[difference[0]] += 1
    row[difference[1]] -= 1
    return row


def joined(shafts, differences):
    """The shafts that are joined with 0."""
    reached = {0}
    for _ in range(shafts):
        for first, second in differences:
            if first in reached or second in reached:
                reached |= {first, second}
    return reached


def is_tree(shafts, differences):
    return len(differences) == shafts and joined(shafts, differences) == set(range(shafts + 1))


def is_order(shafts, differences, order):
    """Whether each difference in turn has just one shaft that is neither 0 nor in a difference ahead."""
    ahead = {0}
    for at in order:
        if len(set(differences[at]) - ahead) != 1:
            return False
        ahead |= set(differences[at])
    return True


def rings(shafts, differences):
    """All lists of (index, sign), not empty, that add up to nothing."""
    found = []
    for signs in product((-1, 0, 1), repeat=len(differences)):
        total = [0] * (shafts + 1)
        for sign, difference in zip(signs, differences):
            total = [a + sign * b for a, b in zip(total, difference_row(shafts, difference))]
        if any(signs) and not any(total):
            found.append([(at, sign) for at, sign in enumerate(signs) if sign])
    return found


def rank(rows):
    rows = [[Fraction(number) for number in row] for row in rows]
    done = 0
    for column in range(len(rows[0]) if rows else 0):
        lead = next((row for row in rows[done:] if row[column] != 0), None)
        if lead is None:
            continue
        rows.remove(lead)
        rows.insert(done, lead)
        done += 1
        for at in range(done, len(rows)):
            factor = rows[at][column] / lead[column]
            rows[at] = [a - factor * b for a, b in zip(rows[at], lead)]
    return done


def differences_of(work):
    if work[0] in ("planet", "double"):
        return (work[1], work[2]), (work[3], work[2])
    return (work[1], 0), (work[2], 0)


def sense_of(work):
    return {"planet": 1, "double": -1, "pair": 1, "band": -1}[work[0]]


def relations(shafts, works, told, locks):
    """The rows, with a column for each shaft from 0 on, that are 0 for motions; the first one says that 0 stands."""
    rows = [[1] + [0] * shafts]
    for work, ratio in zip(works, told):
        first, second = differences_of(work)
        factor = sense_of(work) * Fraction(*ratio)
        ends = zip(difference_row(shafts, first), difference_row(shafts, second))
        rows.append([a + factor * b for a, b in ends])
    return rows + [difference_row(shafts, lock) for lock in locks]


def is_motion(shafts, works, told, locks, speeds):
    worths = [Fraction(*speed) for speed in speeds]
    rows = relations(shafts, works, told, locks)
    return all(sum(a * b for a, b in zip(row, worths)) == 0 for row in rows)


def tells(rows, row):
    """Whether the rows being 0 makes this one 0."""
    return rank(rows + [row]) == rank(rows)
