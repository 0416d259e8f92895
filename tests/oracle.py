"""Plain and slow answers, straight from the words of the document, to hold the package against."""

from fractions import Fraction
from itertools import permutations, product


def determinant(square):
    total = 0
    for order in permutations(range(len(square))):
        worth = -1 if sum(a > b for k, a in enumerate(order) for b in order[k + 1:]) % 2 else 1
        for row, column in enumerate(order):
            worth *= square[row][column]
        total += worth
    return total


def difference_row(shafts, difference):
    row = [0] * (shafts + 1)
    row[difference[0]] += 1
    row[difference[1]] -= 1
    return row


def joined(shafts, differences):
    """The shafts that are joined with 0."""
    reached = {0}
    for _ in range(shafts):
        for first, second in differences:
            if first in reached or second in reached:
                reached |= {first, second}
    return reached


def is_tree(shafts, differences):
    return len(differences) == shafts and joined(shafts, differences) == set(range(shafts + 1))


def is_order(shafts, differences, order):
    """Whether each difference in turn has just one shaft that is neither 0 nor in a difference ahead."""
    ahead = {0}
    for at in order:
        if len(set(differences[at]) - ahead) != 1:
            return False
        ahead |= set(differences[at])
    return True


def rings(shafts, differences):
    """All lists of (index, sign), not empty, that add up to nothing."""
    found = []
    for signs in product((-1, 0, 1), repeat=len(differences)):
        total = [0] * (shafts + 1)
        for sign, difference in zip(signs, differences):
            total = [a + sign * b for a, b in zip(total, difference_row(shafts, difference))]
        if any(signs) and not any(total):
            found.append([(at, sign) for at, sign in enumerate(signs) if sign])
    return found


def rank(rows):
    rows = [[Fraction(number) for number in row] for row in rows]
    done = 0
    for column in range(len(rows[0]) if rows else 0):
        lead = next((row for row in rows[done:] if row[column] != 0), None)
        if lead is None:
            continue
        rows.remove(lead)
        rows.insert(done, lead)
        done += 1
        for at in range(done, len(rows)):
            factor = rows[at][column] / lead[column]
            rows[at] = [a - factor * b for a, b in zip(rows[at], lead)]
    return done


def differences_of(work):
    if work[0] in ("planet", "double"):
        return (work[1], work[2]), (work[3], work[2])
    return (work[1], 0), (work[2], 0)


def sense_of(work):
    return {"planet": 1, "double": -1, "pair": 1, "band": -1}[work[0]]


def relations(shafts, works, told, locks):
    """The rows, with a column for each shaft from 0 on, that are 0 for motions; the first one says that 0 stands."""
    rows = [[1] + [0] * shafts]
    for work, ratio in zip(works, told):
        first, second = differences_of(work)
        factor = sense_of(work) * Fraction(*ratio)
        ends = zip(difference_row(shafts, first), difference_row(shafts, second))
        rows.append([a + factor * b for a, b in ends])
    return rows + [difference_row(shafts, lock) for lock in locks]


def is_motion(shafts, works, told, locks, speeds):
    worths = [Fraction(*speed) for speed in speeds]
    rows = relations(shafts, works, told, locks)
    return all(sum(a * b for a, b in zip(row, worths)) == 0 for row in rows)


def tells(rows, row):
    """Whether the rows being 0 makes this one 0."""
    return rank(rows + [row]) == rank(rows)


def worth(terms, worths):
    """What the sum of the terms is at these worths, fractions of Python's own."""
    total = Fraction(0)
    for unknowns, number in terms:
        part = Fraction(number)
        for unknown in unknowns:
            part *= worths[unknown]
        total += part
    return total


def choices(shafts, works, locks, extra):
    """All tuples (choice, sign) of trees, ascending."""
    found = []
    for choice in product((0, 1), repeat=len(works)):
        row = [differences_of(work)[pick] for work, pick in zip(works, choice)] + locks + extra
        if is_tree(shafts, row):
            square = [difference_row(shafts, difference)[1:] for difference in row]
            found.append((choice, determinant(square)))
    return found


def tree_terms(shafts, works, ratios, locks, extra):
    """The ascending terms of the tree form."""
    totals = {}
    for choice, sign in choices(shafts, works, locks, extra):
        unknowns, number = (), sign
        for at, (work, pick) in enumerate(zip(works, choice)):
            if ratios[at] is None:
                unknowns += (at,) * pick
                number *= sense_of(work) if pick else 1
            else:
                number *= sense_of(work) * ratios[at][0] if pick else ratios[at][1]
        totals[unknowns] = totals.get(unknowns, 0) + number
    return sorted((unknowns, number) for unknowns, number in totals.items() if number)


def corners(ratios, far=10 ** 40):
    """Told ratios with each unknown one very great or very small."""
    picks = [((far, 1), (1, far)) if ratio is None else (ratio,) for ratio in ratios]
    return [list(told) for told in product(*picks)]


def splits(terms):
    """All ways to share the unknowns among two sides such that the form is a product of a form of each side."""
    unknowns = sorted({unknown for one, _ in terms for unknown in one})
    found = []
    for sides in product((0, 1), repeat=len(unknowns)):
        one = tuple(unknown for unknown, side in zip(unknowns, sides) if side)
        other = tuple(unknown for unknown in unknowns if unknown not in one)
        if one and other and unknowns[0] in one and rank(square_of(terms, one)) == 1:
            found.append((one, other))
    return found


def square_of(terms, one):
    """The numbers of the terms by their unknowns on this side and their other unknowns."""
    rows, columns = {}, sorted({tuple(u for u in unknowns if u not in one) for unknowns, _ in terms})
    for unknowns, number in terms:
        row = rows.setdefault(tuple(u for u in unknowns if u in one), [0] * len(columns))
        row[columns.index(tuple(u for u in unknowns if u not in one))] = number
    return list(rows.values())


def speeds(shafts, works, told, locks, inlet):
    """The only motion with the speed 1 at the inlet, as fractions of Python's own, or None."""
    rows = relations(shafts, works, told, locks)
    return solution(rows + [[int(k == inlet) for k in range(shafts + 1)]], [0] * len(rows) + [1])


def solution(rows, sums):
    """The only list of fractions whose products with each row add up to its sum, or None if it is not just one."""
    width = len(rows[0])
    whole = [[Fraction(number) for number in row] + [Fraction(due)] for row, due in zip(rows, sums)]
    if rank([row[:-1] for row in whole]) < width or rank(whole) > width:
        return None
    done = 0
    for column in range(width):
        lead = next(row for row in whole[done:] if row[column] != 0)
        whole.remove(lead)
        lead = [number / lead[column] for number in lead]
        whole = [[a - row[column] * b for a, b in zip(row, lead)] for row in whole]
        whole.insert(done, lead)
        done += 1
    return [row[-1] for row in whole[:width]]


def torques(shafts, works, told, locks, inlet, outlet, torque, loads, lock_loads):
    """The sums of all torques on the shafts from 1 on, of fractions of Python's own."""
    total = [Fraction(0)] * (shafts + 1)
    total[inlet] += 1
    total[outlet] += torque
    for (a, b), load in zip(locks, lock_loads):
        total[a] += load
        total[b] -= load
    for work, ratio, load in zip(works, told, loads):
        (a, b), (c, d) = differences_of(work)
        total[a] += load
        total[b] -= load
        total[c] += sense_of(work) * Fraction(*ratio) * load
        total[d] -= sense_of(work) * Fraction(*ratio) * load
    return total[1:]


def balances(shafts, works, told, locks, inlet, outlet):
    """The list of torque and loads if there is just one balance, else None."""
    count = 1 + len(works) + len(locks)

    def at(numbers):
        return torques(shafts, works, told, locks, inlet, outlet,
                       numbers[0], numbers[1:1 + len(works)], numbers[1 + len(works):])
    base = at([Fraction(0)] * count)
    columns = [[one - zero for one, zero in zip(at([Fraction(int(k == m)) for m in range(count)]), base)]
               for k in range(count)]
    return solution([list(row) for row in zip(*columns)], [-zero for zero in base])


def is_within(found, worth):
    """Whether the worth is in the range."""
    low, high = found
    if low is not None and low == high:
        return worth == Fraction(*low)
    return (low is None or Fraction(*low) < worth) and (high is None or worth < Fraction(*high))


def fits_sense(sense, worths):
    """Whether worths at some ratios go with this sense for all ratios."""
    above, below = any(worth > 0 for worth in worths), any(worth < 0 for worth in worths)
    if sense in ("plus", "minus"):
        return all(worth > 0 if sense == "plus" else worth < 0 for worth in worths)
    return {"zero": not above and not below, "plus or zero": not below, "minus or zero": not above, "both": True}[sense]
