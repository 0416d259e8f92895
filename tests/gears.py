"""Boxes with works of all kinds, ratios and locks, by chance but the same in each run."""

import random
from itertools import product

from planetlocks.boxes import Box
from planetlocks.trees import driven

TOLD = [(1, 1), (2, 1), (1, 3), (5, 2)]


def random_work(chance, shafts):
    kind = chance.choice(["planet", "double", "pair", "band"])
    if kind in ("planet", "double"):
        return (kind, *chance.sample(range(shafts + 1), 3))
    return (kind, *chance.sample(range(1, shafts + 1), 2))


def all_locks(shafts):
    return [(a, b) for a in range(1, shafts + 1) for b in range(a)]


def random_locks(chance, shafts, count):
    """So many unlike locks, ascending."""
    return sorted(chance.sample(all_locks(shafts), count))


def random_gears(seed, count, missing=1, shafts=(2, 3, 4, 5)):
    """Tuples (box, ratios, locks); works and locks are so many fewer than shafts; none, some or all ratios told."""
    chance = random.Random(seed)
    found = []
    for _ in range(count):
        size = chance.choice(shafts)
        works = chance.randint(0, size - missing)
        box = Box(size, [random_work(chance, size) for _ in range(works)])
        told = chance.choice([0, 0.5, 1])
        ratios = [chance.choice(TOLD) if chance.random() < told else None for _ in range(works)]
        found.append((box, ratios, random_locks(chance, size, size - missing - works)))
    return found


def driven_gears(seed, count, shafts=(2, 3, 4, 5)):
    """Tuples (box, ratios, locks, inlet) of gears that are driven for all ratios."""
    chance = random.Random(seed)
    found = []
    for box, ratios, locks in random_gears(seed, count, shafts=shafts):
        inlet = chance.randint(1, box.shafts)
        if driven(box, ratios, locks, inlet) == "all":
            found.append((box, ratios, locks, inlet))
    return found


def random_neighbours(seed, count, shafts=(2, 3, 4, 5)):
    """Tuples (box, ratios, locks, other locks) of a gear and a neighbour, perhaps not driven."""
    chance = random.Random(seed)
    found = []
    for box, ratios, locks in random_gears(seed, count, shafts=shafts):
        free = [lock for lock in all_locks(box.shafts) if lock not in locks]
        if locks and free:
            rest = list(locks)
            rest.remove(chance.choice(locks))
            found.append((box, ratios, locks, sorted(rest + [chance.choice(free)])))
    return found


def random_told(chance, ratios):
    """The ratios, each unknown one told by chance."""
    return [(chance.choice(TOLD) if ratio is None else ratio) for ratio in ratios]


GRID = [(1, 97), (2, 5), (1, 1), (9, 4), (101, 1)]


def tries(ratios):
    """Told ratios from a grid, for each unknown one each number of it."""
    rows = product(*[GRID if ratio is None else [ratio] for ratio in ratios])
    return [list(told) for told in rows]
