"""Tables, on which all answers for all ratios are reckoned."""

import random
import unittest
from fractions import Fraction

from planetlocks import tables
from tests import oracle

TABLE = {(0, 1): 1, (1,): -2, (): 4}


def random_table(chance, unknowns, most):
    products = [tuple(sorted(chance.sample(range(unknowns), chance.randint(0, unknowns)))) for _ in range(most)]
    return {product: chance.choice([-3, -2, -1, 1, 2, 3]) for product in products}


class TablesTest(unittest.TestCase):
    def test_by_hand(self):
        self.assertEqual(tables.gathered([((0,), 1), ((), 2), ((0,), -1), ((1,), 0), ((), 3)]), {(): 5})
        self.assertEqual(tables.scaled(TABLE, -2), {(0, 1): -2, (1,): 4, (): -8})
        self.assertEqual(tables.scaled(TABLE, 0), {})
        self.assertEqual(tables.raised({(0, 2): 3, (): 1}, (1,)), {(0, 1, 2): 3, (1,): 1})
        self.assertEqual(tables.raised(TABLE, ()), TABLE)
        self.assertEqual(tables.mixed(TABLE, 2, {(1,): 4, (2,): 1}, 1), {(0, 1): 2, (): 8, (2,): 1})
        self.assertEqual(tables.rest_of(TABLE, 1), {(): 4})
        self.assertEqual(tables.slope_of(TABLE, 1), {(): -2, (0,): 1})
        self.assertEqual(tables.unknowns_in({(4,): 1, (0, 2): 1, (): 1}), [0, 2, 4])
        self.assertEqual([tables.told_worth({(): -3}), tables.told_worth({})], [-3, 0])

    def test_senses(self):
        senses = [tables.sense_of_table(table) for table in ({}, {(): 1}, {(0,): -1, (): -2}, TABLE)]
        self.assertEqual(senses, ["zero", "plus", "minus", "both"])

    def test_passed_tables_stay_as_they_were(self):
        table = dict(TABLE)
        for change in (tables.gathered([]), tables.scaled(table, 1), tables.raised(table, ()),
                       tables.mixed(table, 1, {}, 1), tables.rest_of(table, 2)):
            change[(7,)] = 1
            self.assertEqual(table, TABLE)

    def test_zeros(self):
        """Also where no ratio alone, with 1 for all others, comes to 0."""
        chance = random.Random(1)
        cases = [{(0, 1): 1, (): -1}, {(0, 1): 1, (0,): -1, (1,): -1, (): 1}, {(): 5, (0, 1, 2): -4, (0,): 2, (1,): 1},
                 {(0, 1): 3, (0,): -1, (1,): -1}, {(): 3, (0,): -1, (1,): -1, (0, 1): 1}]
        cases += [random_table(chance, 4, chance.randint(1, 9)) for _ in range(800)]
        ways = set()
        for table in cases:
            found = tables.zero_of(table, 5)
            with self.subTest(table=table):
                self.assertEqual(found is None, tables.sense_of_table(table) != "both")
                if found is not None:
                    self.assertEqual(len(found), 5)
                    self.assertTrue(all(Fraction(*worth) > 0 for worth in found))
                    self.assertEqual(oracle.worth(table.items(), [Fraction(*worth) for worth in found]), 0)
                    self.assertEqual(tables.worth_of(table, found), (0, 1))
                    ways.add(sum(worth != (1, 1) for worth in found) > 1)
        self.assertEqual(ways, {True, False})
