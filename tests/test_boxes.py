"""Point 15: boxes, and the works, locks and ratios of point 3."""

import unittest
from itertools import permutations

from planetlocks.boxes import (
    Box, first_difference, is_fraction, is_locks, is_ratios, is_work, renamed, renamed_locks, second_difference,
    sense_at, turned, with_work, without_work,
)
from planetlocks.errors import InvalidBox, InvalidShafts, InvalidWork
from planetlocks.motions import motions
from tests.values import any_values, nested

FOUR = [("planet", 1, 2, 3), ("double", 3, 0, 4), ("pair", 4, 1), ("band", 2, 3)]
WRONG_WORKS = [
    ("planet", 1, 2), ("planet", 1, 2, 3, 4), ("planet", 1, 1, 2), ("planet", 1, 2, 1), ("planet", 2, 1, 1),
    ("planet", 1, 2, 5), ("planet", -1, 2, 3), ("planet", True, 2, 3), ("planet", 1, 2, False), ("planet", "1", 2, 3),
    ("planet", 0, False, 3), ("double", 0, 0, 1), ("double", 4, 5, 1), ("double", 1, 2, None), ("pair", 1), ("pair",),
    ("pair", 1, 0), ("pair", 0, 1), ("band", 2, 0), ("band", 2, 2), ("pair", 1, 2, 3), ("band", 1, 5), ("pair", 1, True),
    ("Planet", 1, 2, 3), ("", 1, 2), ("gear", 1, 2), (1, 2), (["pair"], 1, 2), (None, 1, 2, 3), ("pair", [1], 2),
    ["pair", 1, 2], ["planet", 1, 2, 3], "pair", ("planet pair", 1, 2), (("pair", 1, 2),), ("pair", (1,), 2),
]


class BoxTest(unittest.TestCase):
    def test_properties(self):
        box = Box(4, FOUR)
        self.assertEqual(box.shafts, 4)
        self.assertEqual(box.works, tuple(FOUR))
        self.assertIs(type(box.works), tuple)
        self.assertEqual([len(box), len(Box(1, []))], [4, 0])
        self.assertEqual(Box(1, []).works, ())

    def test_by_name(self):
        self.assertEqual(Box(works=FOUR, shafts=4), Box(4, FOUR))

    def test_wrong_arguments(self):
        for value in any_values() + [("pair", 1, 2), (("pair", 1, 2),)]:
            if type(value) is int and value >= 1:
                continue
            with self.subTest(value=value), self.assertRaises(InvalidShafts):
                Box(value, value)
        for value in any_values() + [tuple(FOUR)]:
            if type(value) is list and not value:
                continue
            with self.subTest(value=value), self.assertRaises(InvalidWork):
                Box(4, value)
        for work in WRONG_WORKS:
            with self.subTest(work=work), self.assertRaises(InvalidWork):
                Box(4, [("pair", 1, 2), work])
        with self.assertRaises(InvalidWork):
            Box(3, FOUR)

    def test_passed_list_is_copied(self):
        works = list(FOUR)
        box = Box(4, works)
        works.append(("pair", 1, 2))
        works[0] = None
        self.assertEqual(box.works, tuple(FOUR))
        self.assertEqual(len(box), 4)

    def test_equal(self):
        box = Box(4, FOUR)
        self.assertTrue(box == Box(4, list(FOUR)))
        self.assertFalse(box != Box(4, list(FOUR)))
        self.assertFalse(box == Box(5, FOUR))
        self.assertFalse(box == Box(4, FOUR[::-1]))
        self.assertFalse(box == Box(4, FOUR[:3]))
        self.assertTrue(box != Box(4, []))
        for value in any_values() + [4, FOUR, tuple(FOUR), (4, FOUR)]:
            with self.subTest(value=value):
                self.assertIs(box == value, False)
                self.assertIs(box != value, True)

    def test_side_by_side(self):
        one = Box(3, [("planet", 1, 0, 3)])
        other = Box(2, [("pair", 1, 2), ("double", 0, 2, 1)])
        self.assertEqual(one + other, Box(5, [("planet", 1, 0, 3), ("pair", 4, 5), ("double", 0, 5, 4)]))
        self.assertEqual(other + one, Box(5, [("pair", 1, 2), ("double", 0, 2, 1), ("planet", 3, 0, 5)]))
        self.assertEqual(one + Box(1, []), Box(4, [("planet", 1, 0, 3)]))
        self.assertEqual(one, Box(3, [("planet", 1, 0, 3)]))
        self.assertEqual(other, Box(2, [("pair", 1, 2), ("double", 0, 2, 1)]))

    def test_side_by_side_with_no_box(self):
        for value in any_values():
            if isinstance(value, Box):
                continue
            with self.subTest(value=value), self.assertRaises(InvalidBox):
                Box(1, []) + value


class KindsTest(unittest.TestCase):
    def test_fractions(self):
        for value in ((0, 1), (1, 1), (-1, 1), (5, 2), (-5, 2), (2, 5), (10 ** 39, 1), (1, 10 ** 39), (-7, 3)):
            with self.subTest(value=value):
                self.assertIs(is_fraction(value), True)
        wrong = [(0, 2), (2, 4), (-2, 4), (1, 0), (0, 0), (1, -1), (-1, -1), (0, -1), (5, -2), (True, 1), (1, True),
                 (False, 1), [1, 1], (1,), (1, 1, 1), (1, "1"), ("1", 1), (None, 1), 1, "1/1", ((1, 1),), ([1], 1)]
        for value in wrong:
            with self.subTest(value=value):
                self.assertIs(is_fraction(value), False)
        right = [(1, 1), (0, 1)]
        for value in any_values():
            with self.subTest(value=value):
                plain = type(value) is tuple and len(value) == 2 and all(type(part) is int for part in value)
                self.assertIs(is_fraction(value), plain and value in right)

    def test_works(self):
        right = FOUR + [("planet", 1, 2, 0), ("planet", 0, 2, 1), ("double", 4, 0, 2), ("pair", 1, 4), ("band", 4, 1)]
        for work in right:
            with self.subTest(work=work):
                self.assertIs(is_work(4, work), True)
        for work in WRONG_WORKS:
            with self.subTest(work=work):
                self.assertIs(is_work(4, work), False)
        self.assertIs(is_work(3, ("pair", 1, 4)), False)
        self.assertIs(is_work(1, ("pair", 1, 1)), False)
        self.assertIs(is_work(2, ("planet", 0, 1, 2)), True)
        for value in any_values():
            with self.subTest(value=value):
                self.assertIs(is_work(2, value), False)

    def test_locks(self):
        right = [[], [(1, 0)], [(1, 0), (2, 0), (2, 1)], [(2, 1), (3, 0)], [(3, 2)]]
        for value in right:
            with self.subTest(value=value):
                self.assertIs(is_locks(3, value), True)
        wrong = [
            [(0, 1)], [(1, 1)], [(4, 0)], [(1, -1)], [(2, 0), (1, 0)], [(1, 0), (1, 0)], [(1, 0), (2, 1), (2, 0)],
            [(2, 1), (1, 2)], [(1, False)], [(True, 0)], [[1, 0]], ((1, 0),), [(1, 0, 0)], [(1,)], [1, 0], [None],
            ["10"], "", None, (), [("1", 0)], [(1, None)], [(1, 0), (2, (0,))], {},
        ]
        for value in wrong:
            with self.subTest(value=value):
                self.assertIs(is_locks(3, value), False)
        self.assertIs(is_locks(1, [(2, 0)]), False)
        for value in any_values():
            right = type(value) is list and (not value or value == [(1, 0)] and type(value[0][0]) is int)
            with self.subTest(value=value):
                self.assertIs(is_locks(3, value), right)

    def test_ratios(self):
        box = Box(4, FOUR[:2])
        for value in ([None, None], [(1, 1), None], [(5, 2), (2, 5)], [None, (10 ** 39, 1)]):
            with self.subTest(value=value):
                self.assertIs(is_ratios(box, value), True)
        wrong = [
            [], [None], [None, None, None], (None, None), [(0, 1), None], [(-1, 1), None], [None, (2, 4)],
            [None, (1, 0)], [None, (1, -1)], [None, (-1, -1)], [None, (True, 1)], [None, 1], [None, False],
            [None, [1, 1]], [None, ()], None, "??", [None, "?"], [None, box],
        ]
        for value in wrong + any_values():
            with self.subTest(value=value):
                self.assertIs(is_ratios(box, value), False)
        self.assertIs(is_ratios(Box(1, []), []), True)
        self.assertIs(is_ratios(Box(1, []), ()), False)

    def test_long_and_deep_values(self):
        for value in (nested(list, 12), nested(tuple, 12), [(1, 0)] * 133, list(range(400))):
            self.assertIs(is_locks(8, value), False)
            self.assertIs(is_work(8, value), False)
            self.assertIs(is_fraction(value), False)
            self.assertIs(is_ratios(Box(1, []), value), False)


class WorksTest(unittest.TestCase):
    def test_differences_and_senses(self):
        box = Box(4, FOUR)
        self.assertEqual([first_difference(box, at) for at in range(4)], [(1, 2), (3, 0), (4, 0), (2, 0)])
        self.assertEqual([second_difference(box, at) for at in range(4)], [(3, 2), (4, 0), (1, 0), (3, 0)])
        self.assertEqual([sense_at(box, at) for at in range(4)], [1, -1, 1, -1])

    def test_with_and_without(self):
        box = Box(4, FOUR[:2])
        self.assertEqual(with_work(box, FOUR[2]), Box(4, FOUR[:3]))
        self.assertEqual(with_work(Box(2, []), ("pair", 1, 2)), Box(2, [("pair", 1, 2)]))
        self.assertEqual(without_work(Box(4, FOUR), 1), Box(4, [FOUR[0], FOUR[2], FOUR[3]]))
        self.assertEqual(without_work(Box(4, FOUR), 0), Box(4, FOUR[1:]))
        self.assertEqual(without_work(Box(4, FOUR), 3), Box(4, FOUR[:3]))
        self.assertEqual(without_work(Box(4, FOUR[:1]), 0), Box(4, []))
        self.assertEqual(box, Box(4, FOUR[:2]))

    def test_turned(self):
        box = Box(4, FOUR)
        exchanged = [("planet", 3, 2, 1), ("double", 4, 0, 3), ("pair", 1, 4), ("band", 3, 2)]
        for at in range(4):
            works = list(FOUR)
            works[at] = exchanged[at]
            self.assertEqual(turned(box, at), Box(4, works))
            self.assertEqual(turned(turned(box, at), at), box)
        self.assertEqual(box, Box(4, FOUR))

    def test_turned_has_the_same_motions_with_the_ratio_1_by_the_elder(self):
        box = Box(4, FOUR[:3])
        told = [(5, 2), (3, 7), (4, 1)]
        for at in range(3):
            other = list(told)
            other[at] = (told[at][1], told[at][0])
            self.assertEqual(motions(turned(box, at), other, []), motions(box, told, []))

    def test_renamed(self):
        box = Box(3, [("planet", 1, 0, 3), ("band", 2, 1)])
        self.assertEqual(renamed(box, (1, 2, 3)), box)
        self.assertEqual(renamed(box, (3, 1, 2)), Box(3, [("planet", 2, 0, 1), ("band", 3, 2)]))
        for order in permutations((1, 2, 3)):
            names = {0: 0, **{shaft: at + 1 for at, shaft in enumerate(order)}}
            works = [(work[0],) + tuple(names[shaft] for shaft in work[1:]) for work in box.works]
            self.assertEqual(renamed(box, order), Box(3, works))
        self.assertEqual(renamed(Box(1, []), (1,)), Box(1, []))

    def test_renamed_locks(self):
        self.assertEqual(renamed_locks(3, (3, 1, 2), [(1, 0), (3, 2)]), [(2, 0), (3, 1)])
        self.assertEqual(renamed_locks(3, (3, 2, 1), [(1, 0), (2, 0), (3, 0)]), [(1, 0), (2, 0), (3, 0)])
        self.assertEqual(renamed_locks(3, (2, 1, 3), [(2, 1), (3, 1)]), [(2, 1), (3, 2)])
        self.assertEqual(renamed_locks(1, (1,), []), [])
        for order in permutations((1, 2, 3)):
            names = {0: 0, **{shaft: at + 1 for at, shaft in enumerate(order)}}
            locks = [(1, 0), (2, 1), (3, 0), (3, 2)]
            pairs = sorted(tuple(sorted((names[a], names[b]), reverse=True)) for a, b in locks)
            self.assertEqual(renamed_locks(3, order, locks), pairs)
