"""Point 14: webs."""

import random
import unittest
from itertools import combinations, permutations, product

from planetlocks.webs import (
    apart, holding_order, is_tree, judge_order, judge_ring, ring_of, tree_count, tree_sets, tree_sign,
)
from tests import oracle
from tests.values import any_values

TREE = [(2, 1), (1, 0)]
TRIANGLE = [(1, 0), (2, 0), (2, 1)]


def all_differences(shafts):
    return [(a, b) for a in range(shafts + 1) for b in range(shafts + 1) if a != b]


def small_webs():
    """All webs of up to 2 shafts and 3 differences, all of 3 shafts and 2, and some greater ones."""
    webs = []
    for shafts, most in ((1, 3), (2, 3), (3, 2)):
        for length in range(most + 1):
            webs += [(shafts, list(web)) for web in product(all_differences(shafts), repeat=length)]
    chance = random.Random(14)
    for _ in range(150):
        shafts = chance.randint(2, 5)
        length = chance.choice((shafts, shafts, chance.randint(0, 6)))
        webs.append((shafts, [chance.choice(all_differences(shafts)) for _ in range(length)]))
    return webs


class ExamplesTest(unittest.TestCase):
    def test_document(self):
        self.assertIs(is_tree(2, TREE), True)
        self.assertEqual(tree_sign(2, TREE), -1)
        self.assertEqual(tree_count(2, TRIANGLE), 3)
        self.assertIs(judge_ring(2, [(1, 0), (0, 1)], [(0, -1), (1, -1)]), True)
        self.assertEqual(apart(3, [(3, 2)]), [1, 2, 3])


class TreesTest(unittest.TestCase):
    def test_plain_trees(self):
        for shafts, web in ((1, [(1, 0)]), (1, [(0, 1)]), (2, TREE), (3, [(1, 2), (3, 2), (0, 3)])):
            with self.subTest(web=web):
                self.assertIs(is_tree(shafts, web), True)
                self.assertIn(tree_sign(shafts, web), (1, -1))

    def test_no_trees(self):
        cases = [
            (1, []), (2, []), (2, [(1, 0)]), (2, [(2, 1)]), (2, TRIANGLE), (2, [(1, 0), (1, 0)]),
            (2, [(1, 0), (0, 1)]), (3, [(1, 0), (3, 2), (2, 3)]), (3, [(1, 2), (2, 3), (3, 1)]), (1, [(1, 0), (1, 0)]),
        ]
        for shafts, web in cases:
            with self.subTest(shafts=shafts, web=web):
                self.assertIs(is_tree(shafts, web), False)
                self.assertEqual(tree_sign(shafts, web), 0)
                self.assertIsNone(holding_order(shafts, web))

    def test_sign_is_the_determinant_without_column_0(self):
        self.assertEqual(tree_sign(1, [(1, 0)]), 1)
        self.assertEqual(tree_sign(1, [(0, 1)]), -1)
        self.assertEqual(tree_sign(2, [(1, 0), (2, 0)]), 1)
        self.assertEqual(tree_sign(2, [(2, 0), (1, 0)]), -1)
        self.assertEqual(tree_sign(2, [(0, 2), (1, 0)]), 1)

    def test_against_the_words(self):
        for shafts, web in small_webs():
            with self.subTest(shafts=shafts, web=web):
                tree = oracle.is_tree(shafts, web)
                rows = [oracle.difference_row(shafts, one)[1:] for one in web]
                sign = oracle.determinant(rows) if len(web) == shafts else 0
                self.assertIs(is_tree(shafts, web), tree)
                self.assertEqual(tree_sign(shafts, web), sign)
                self.assertEqual(sign != 0, tree)

    def test_apart(self):
        self.assertEqual(apart(1, []), [1])
        self.assertEqual(apart(4, [(3, 2), (0, 4), (4, 3)]), [1])
        self.assertEqual(apart(2, TREE), [])
        for shafts, web in small_webs():
            with self.subTest(shafts=shafts, web=web):
                reached = oracle.joined(shafts, web)
                self.assertEqual(apart(shafts, web), [k for k in range(1, shafts + 1) if k not in reached])

    def test_counts_and_sets(self):
        for shafts, web in small_webs():
            with self.subTest(shafts=shafts, web=web):
                indexes = combinations(range(len(web)), shafts)
                sets = [one for one in indexes if oracle.is_tree(shafts, [web[k] for k in one])]
                self.assertEqual(tree_sets(shafts, web), sets)
                self.assertEqual(tree_count(shafts, web), len(sets))

    def test_sets_of_plain_webs(self):
        self.assertEqual(tree_sets(2, TRIANGLE), [(0, 1), (0, 2), (1, 2)])
        self.assertEqual(tree_sets(1, [(1, 0), (0, 1), (1, 0)]), [(0,), (1,), (2,)])
        self.assertEqual(tree_count(1, [(1, 0), (0, 1), (1, 0)]), 3)
        self.assertEqual(tree_sets(2, []), [])
        self.assertEqual(tree_count(2, []), 0)
        self.assertEqual(tree_sets(3, [(3, 2), (2, 1), (1, 3), (3, 2)]), [])
        self.assertEqual(tree_count(3, [(3, 2), (2, 1), (1, 3), (3, 2)]), 0)


class OrdersTest(unittest.TestCase):
    def test_result_is_judged_right_and_none_without_a_tree(self):
        for shafts, web in small_webs():
            with self.subTest(shafts=shafts, web=web):
                order = holding_order(shafts, web)
                if not oracle.is_tree(shafts, web):
                    self.assertIsNone(order)
                    continue
                self.assertIs(type(order), list)
                self.assertEqual(sorted(order), list(range(shafts)))
                self.assertTrue(oracle.is_order(shafts, web, order))
                self.assertIs(judge_order(shafts, web, order), True)

    def test_judge_takes_each_right_order(self):
        for shafts, web in small_webs():
            if len(web) > 4:
                continue
            for order in permutations(range(len(web))):
                with self.subTest(shafts=shafts, web=web, order=order):
                    right = oracle.is_tree(shafts, web) and oracle.is_order(shafts, web, order)
                    self.assertIs(judge_order(shafts, web, list(order)), right)

    def test_judge_refuses_other_values(self):
        self.assertIs(judge_order(2, TREE, [1, 0]), True)
        wrong = [(1, 0), [1], [0, 1], [1, 0, 0], [1, 1], [1, 0, 1], [True, 0], [1, False], [1, 2], [1, -2], [-1, 0],
                 ["1", 0], [1, None], [1, [0]], [[1, 0]], "10", 10]
        for value in wrong + any_values():
            if value == [1, 0] and type(value) is list and type(value[0]) is int:
                continue
            with self.subTest(value=value):
                self.assertIs(judge_order(2, TREE, value), False)

    def test_judge_is_false_without_a_tree(self):
        self.assertIs(judge_order(2, [(1, 0)], [0]), False)
        self.assertIs(judge_order(1, [], []), False)
        self.assertIs(judge_order(2, TRIANGLE, [0, 1, 2]), False)
        self.assertIs(judge_order(2, TRIANGLE, [0, 1]), False)
        for value in any_values():
            self.assertIs(judge_order(2, [(1, 0), (0, 1)], value), False)


class RingsTest(unittest.TestCase):
    def test_plain_rings(self):
        self.assertIs(judge_ring(2, TRIANGLE, ring_of(2, TRIANGLE)), True)
        self.assertIs(judge_ring(1, [(1, 0), (1, 0)], [(0, 1), (1, -1)]), True)
        self.assertIs(judge_ring(1, [(1, 0), (1, 0)], [(0, 1), (1, 1)]), False)
        self.assertIs(judge_ring(1, [(1, 0), (0, 1)], [(0, 1), (1, 1)]), True)
        self.assertIsNone(ring_of(2, TREE))
        self.assertIsNone(ring_of(1, []))

    def test_several_rings_together(self):
        web = [(1, 0), (2, 1), (1, 0), (1, 2)]
        self.assertIs(judge_ring(2, web, [(0, 1), (1, 1), (2, -1), (3, 1)]), True)
        self.assertIs(judge_ring(2, web, [(0, 1), (1, 1), (2, 1), (3, 1)]), False)

    def test_a_ring_apart_from_0(self):
        web = [(2, 1), (3, 2), (1, 3)]
        self.assertIs(judge_ring(3, web, [(0, 1), (1, 1), (2, 1)]), True)
        self.assertIs(judge_ring(3, web, ring_of(3, web)), True)

    def test_against_the_words(self):
        for shafts, web in small_webs():
            if len(web) > 5:
                continue
            with self.subTest(shafts=shafts, web=web):
                rings = oracle.rings(shafts, web)
                found = ring_of(shafts, web)
                self.assertEqual(found is None, not rings)
                if found is not None:
                    self.assertIn(found, rings)
                    self.assertIs(judge_ring(shafts, web, found), True)

    def test_judge_against_the_words(self):
        for shafts, web in small_webs():
            if len(web) > 3:
                continue
            rings = oracle.rings(shafts, web)
            for signs in product((-1, 0, 1), repeat=len(web)):
                value = [(at, sign) for at, sign in enumerate(signs) if sign]
                with self.subTest(shafts=shafts, web=web, value=value):
                    self.assertIs(judge_ring(shafts, web, value), value in rings)

    def test_judge_refuses_other_values(self):
        web = [(1, 0), (1, 0), (0, 1)]
        self.assertIs(judge_ring(1, web, [(0, 1), (1, -1)]), True)
        self.assertIs(judge_ring(1, web, [(1, 1), (2, 1)]), True)
        wrong = [
            [], [(1, -1), (0, 1)], ((0, 1), (1, -1)), [[0, 1], [1, -1]], [(0, 1), (0, -1)], [(0, 2), (1, -2)],
            [(0, 0)], [(False, 1), (1, -1)], [(0, True), (1, -1)], [(0, 1), (True, -1)], [(0, 1), (3, -1)],
            [(-3, 1), (1, -1)], [(0, 1, 1), (1, -1)], [(0, 1), (1,)], [("0", 1), (1, -1)], [(0, 1), (1, None)],
            [(0, 1)], [(0, 1), (1, [-1])], [(0, 1), (2, -1)],
        ]
        for value in wrong + any_values():
            with self.subTest(value=value):
                self.assertIs(judge_ring(1, web, value), False)


class GreatWebsTest(unittest.TestCase):
    def test_8_shafts_and_12_differences(self):
        web = [(k, k - 1) for k in range(1, 9)] + [(8, 0), (4, 0), (6, 2), (7, 3)]
        sets = [one for one in combinations(range(12), 8) if oracle.is_tree(8, [web[k] for k in one])]
        self.assertEqual(tree_sets(8, web), sets)
        self.assertEqual(tree_count(8, web), len(sets))
        self.assertIs(judge_ring(8, web, ring_of(8, web)), True)
        self.assertEqual(apart(8, web), [])
        self.assertIs(is_tree(8, web), False)
        self.assertEqual(tree_sign(8, web[:8]), 1)
        self.assertIs(judge_order(8, web[:8], holding_order(8, web[:8])), True)

    def test_more_shafts_than_can_be_joined(self):
        many = 10 ** 39
        self.assertIs(is_tree(many, [(many, 0)]), False)
        self.assertEqual(tree_sign(many, [(many, 0)]), 0)
        self.assertIsNone(holding_order(many, [(many, 0)]))
        self.assertEqual(tree_sets(many, [(many, 0)]), [])
        self.assertEqual(tree_count(many, [(many, 0)]), 0)
        self.assertIs(judge_ring(many, [(many, 0), (0, many)], ring_of(many, [(many, 0), (0, many)])), True)
