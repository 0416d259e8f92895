"""Point 20: parts of forms, products, and the senses of products."""

import random
import unittest
from fractions import Fraction
from math import gcd

from planetlocks.errors import InvalidForm, SharedUnknown
from planetlocks.forms import Form, sense_of, unknowns_of
from planetlocks.parts import parts, product, product_sense
from tests import oracle
from tests.test_forms import random_form

ZERO_FORM = Form([])


def random_product(chance):
    """A product of up to four forms in unlike unknowns, times a number."""
    unknowns = list(range(6))
    chance.shuffle(unknowns)
    total = Form([((), chance.choice([1, 1, -1, 2, -6]))])
    for _ in range(chance.randint(0, 4)):
        own = sorted(unknowns[:chance.randint(1, 3)])
        unknowns = [unknown for unknown in unknowns if unknown not in own]
        total = product(total, random_form(chance, own, most=5))
    return total


def random_products(seed, count):
    chance = random.Random(seed)
    return [random_product(chance) for _ in range(count)]


def multiplied(forms):
    total = Form([((), 1)])
    for form in forms:
        total = product(total, form)
    return total


class PartsTest(unittest.TestCase):
    def judge(self, form):
        number, found = parts(form)
        self.assertIs(type(number), int)
        self.assertIs(type(found), list)
        self.assertEqual(multiplied(found) * number, form)
        for part in found:
            self.assertIs(type(part), Form)
            self.assertTrue(unknowns_of(part))
            self.assertGreater(part.terms[0][1], 0)
            self.assertEqual(gcd(*[number for _, number in part.terms]), 1)
            self.assertEqual(oracle.splits(part.terms), [])
        firsts = [unknowns_of(part)[0] for part in found]
        self.assertEqual(firsts, sorted(firsts))
        everything = [unknown for part in found for unknown in unknowns_of(part)]
        self.assertEqual(len(everything), len(set(everything)))

    def test_example(self):
        whole = Form([((), -2), ((0,), 2), ((0, 1), 4), ((1,), -4)])
        number, found = parts(whole)
        self.assertEqual(number, -2)
        self.assertEqual([one.terms for one in found], [[((), 1), ((0,), -1)], [((), 1), ((1,), 2)]])
        self.assertEqual(product_sense([whole, Form([((), 1), ((0,), -1)])]), "minus or zero")

    def test_without_unknowns(self):
        self.assertEqual(parts(ZERO_FORM), (0, []))
        for number in (1, -1, 6, -10 ** 30):
            self.assertEqual(parts(Form([((), number)])), (number, []))

    def test_by_hand(self):
        cases = [
            ([((0,), 1)], (1, [[((0,), 1)]])),
            ([((0,), -3)], (-3, [[((0,), 1)]])),
            ([((0, 2, 5), 4)], (4, [[((0,), 1)], [((2,), 1)], [((5,), 1)]])),
            ([((), 4), ((1,), 6)], (2, [[((), 2), ((1,), 3)]])),
            ([((), -4), ((1,), 6)], (-2, [[((), 2), ((1,), -3)]])),
            ([((3,), -1), ((1,), 1)], (1, [[((1,), 1), ((3,), -1)]])),
            ([((3,), 1), ((1,), -1)], (-1, [[((1,), 1), ((3,), -1)]])),
            ([((), 1), ((0, 1), 1)], (1, [[((), 1), ((0, 1), 1)]])),
            ([((0,), 1), ((0, 1), 1)], (1, [[((0,), 1)], [((), 1), ((1,), 1)]])),
            ([((1,), 2), ((0, 1), -2)], (2, [[((), 1), ((0,), -1)], [((1,), 1)]])),
            ([((0,), 1), ((1,), 1), ((0, 2), 1), ((1, 2), 1)], (1, [[((0,), 1), ((1,), 1)], [((), 1), ((2,), 1)]])),
            ([((), 1), ((0,), 1), ((1,), 1), ((0, 1), 1)], (1, [[((), 1), ((0,), 1)], [((), 1), ((1,), 1)]])),
            ([((), 1), ((0,), 1), ((1,), 1), ((0, 1), 2)], (1, [[((), 1), ((0,), 1), ((0, 1), 2), ((1,), 1)]])),
        ]
        for terms, (number, found) in cases:
            with self.subTest(terms=terms):
                self.assertEqual(parts(Form(terms)), (number, [Form(part) for part in found]))

    def test_products_of_three(self):
        three = [Form([((0,), 1), ((3,), -2)]), Form([((), 5), ((1, 4), 3)]), Form([((), 1), ((2,), -1)])]
        self.assertEqual(parts(multiplied(three) * -7), (-7, three))
        mixed = [Form([((2,), 1), ((5,), 1)]), Form([((0,), 1), ((4,), 1)]), Form([((1,), 2), ((3,), -3)])]
        self.assertEqual(parts(multiplied(mixed)), (1, [mixed[1], mixed[2], mixed[0]]))

    def test_random_products(self):
        for form in random_products(1, 250):
            with self.subTest(terms=form.terms):
                self.judge(form)

    def test_random_forms(self):
        chance = random.Random(2)
        for _ in range(150):
            form = random_form(chance, [0, 2, 3, 7], most=9, greatest=2)
            with self.subTest(terms=form.terms):
                self.judge(form)

    def test_great_products(self):
        chance = random.Random(3)
        sides = []
        for start in (0, 6):
            subsets = [tuple(k + start for k in range(6) if mask >> k & 1) for mask in range(64)]
            sides.append(Form([(subset, chance.randint(1, 10 ** 30)) for subset in subsets]))
        whole = product(*sides)
        self.assertEqual(len(whole), 64 * 64)
        number, found = parts(whole)
        self.assertEqual([part * (side.terms[0][1] // part.terms[0][1]) for part, side in zip(found, sides)], sides)
        self.assertEqual(multiplied(found) * number, whole)
        self.assertEqual(parts(whole + Form([((0,), 1)]))[1], [whole + Form([((0,), 1)])])

    def test_lists_are_new(self):
        form = Form([((0,), 1), ((0, 1), 1)])
        kept = parts(form)
        parts(form)[1].append("more")
        self.assertEqual(parts(form), kept)


class ProductTest(unittest.TestCase):
    def test_worths(self):
        chance = random.Random(4)
        worths = [Fraction(*pair) for pair in ((2, 3), (-5, 1), (7, 2), (1, 4), (0, 1), (11, 6))]
        for _ in range(100):
            one, other = random_form(chance, [0, 2, 5], most=5), random_form(chance, [1, 3, 4], most=5)
            due = oracle.worth(one.terms, worths) * oracle.worth(other.terms, worths)
            self.assertEqual(oracle.worth(product(one, other).terms, worths), due)
            self.assertEqual(product(one, other), product(other, one))

    def test_by_hand(self):
        one, other = Form([((1,), 2), ((), 1)]), Form([((0,), 3), ((4,), -1)])
        self.assertEqual(product(one, other).terms, [((0,), 3), ((0, 1), 6), ((1, 4), -2), ((4,), -1)])
        self.assertEqual(product(one, Form([((), -2)])).terms, [((), -2), ((1,), -4)])
        self.assertEqual(product(one, ZERO_FORM), ZERO_FORM)
        self.assertEqual(product(ZERO_FORM, one), ZERO_FORM)

    def test_shared_unknowns(self):
        one = Form([((1,), 2), ((0, 3), 1)])
        for other in ([((1,), 1)], [((), 1), ((3,), 1)], [((2,), 1), ((0, 4), 1)]):
            with self.subTest(other=other), self.assertRaises(SharedUnknown):
                product(one, Form(other))
            with self.subTest(other=other), self.assertRaises(SharedUnknown):
                product(Form(other), one)
        with self.assertRaises(SharedUnknown):
            product(one, one)
        # An unknown that went out of all terms stands in the form no more.
        self.assertEqual(product(one, Form([((1,), 1), ((1,), -1), ((2,), 1)])), product(one, Form([((2,), 1)])))


class ProductSenseTest(unittest.TestCase):
    def test_by_hand(self):
        wavering = Form([((), 1), ((0,), -1)])
        plus, minus = Form([((1,), 3), ((), 1)]), Form([((0,), -1), ((2,), -2)])
        number = Form([((), -5)])
        cases = [
            ([], "plus"),
            ([plus], "plus"), ([minus], "minus"), ([number], "minus"), ([wavering], "both"), ([ZERO_FORM], "zero"),
            ([plus, minus], "minus"), ([minus, minus], "plus"), ([minus, number], "plus"), ([minus] * 3, "minus"),
            ([wavering, wavering], "plus or zero"), ([wavering, -wavering], "minus or zero"),
            ([wavering, wavering * 6], "plus or zero"), ([wavering * -3, wavering * 7], "minus or zero"),
            ([wavering] * 3, "both"), ([wavering] * 4, "plus or zero"), ([wavering] * 4 + [minus], "minus or zero"),
            ([wavering, ZERO_FORM], "zero"), ([wavering, wavering, ZERO_FORM], "zero"), ([ZERO_FORM, minus], "zero"),
            ([wavering, plus], "both"), ([wavering, plus, wavering], "plus or zero"),
            ([wavering, Form([((), 1), ((1,), -1)])], "both"),
            ([product(wavering, Form([((), 2), ((1,), -1)])), wavering], "both"),
            ([product(wavering, Form([((), 2), ((1,), -1)])), wavering, Form([((), -2), ((1,), 1)])], "minus or zero"),
            ([product(wavering, plus), -wavering, minus], "plus or zero"),
            ([Form([((), 1), ((0, 1), -1)]), Form([((0,), 1), ((1,), -1)])], "both"),
        ]
        for forms, due in cases:
            with self.subTest(forms=[form.terms for form in forms]):
                self.assertEqual(product_sense(forms), due)
                self.assertEqual(product_sense(forms[::-1]), due)

    def test_one_form_alone(self):
        for form in random_products(5, 150):
            self.assertEqual(product_sense([form]), sense_of(form))

    def test_signs_that_are_found(self):
        chance = random.Random(6)
        for _ in range(200):
            base = [random_form(chance, sorted(chance.sample(range(3), 2)), greatest=2) for _ in range(2)]
            forms = [chance.choice(base) * chance.choice([1, -1, 2]) for _ in range(chance.randint(1, 4))]
            with self.subTest(forms=[form.terms for form in forms]):
                self.judge(product_sense(forms), forms, chance)

    def judge(self, sense, forms, chance):
        """The signs at many ratios, also such at which one of the numbers of a form outweighs another one."""
        allowed = {"zero": {0}, "plus": {1}, "minus": {-1}, "both": {-1, 0, 1},
                   "plus or zero": {0, 1}, "minus or zero": {-1, 0}}[sense]
        signs = set()
        for _ in range(300):
            worths = [Fraction(chance.randint(1, 6), chance.randint(1, 6)) ** chance.choice([1, 3]) for _ in range(3)]
            worth = 1
            for form in forms:
                worth *= oracle.worth(form.terms, worths)
            signs.add((worth > 0) - (worth < 0))
        self.assertLessEqual(signs, allowed)
        self.assertLessEqual(allowed - {0}, signs)

    def test_order_of_parts_and_great_numbers(self):
        far = 10 ** 30
        one = Form([((0,), far), ((11,), -far + 1)])
        self.assertEqual(product_sense([one, one * far, one, -one, Form([((5,), -1)]), Form([((7,), far)])]),
                         "plus or zero")

    def test_wrong_lists(self):
        form = Form([((0,), 1)])
        for value in ((form,), form, [form, None], [form.terms], [[form]], None, "", [0], {}):
            with self.subTest(value=value), self.assertRaises(InvalidForm):
                product_sense(value)
