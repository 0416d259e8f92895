"""Point 27: texts of boxes, ratios, locks and ranges, and what is read from them."""

import random
import unittest
from itertools import product

from planetlocks.boxes import Box, is_fraction, is_locks, is_ratios
from planetlocks.errors import InvalidBox, InvalidFraction, InvalidLocks, InvalidRatios, InvalidShafts, InvalidWords
from planetlocks.ranges import speed_range
from planetlocks.trees import undriven
from planetlocks.words import (
    read_box, read_locks, read_ratios, write_box, write_locks, write_range, write_ratios,
)
from tests.gears import TOLD, all_locks, random_gears, random_work
from tests.values import any_values

SET_OF = Box(3, [("planet", 1, 2, 3)])
TWO = Box(3, [("planet", 1, 2, 3), ("band", 3, 1)])
KINDS = ("planet", "double", "pair", "band")


class WriteTest(unittest.TestCase):
    def test_boxes(self):
        self.assertEqual(write_box(SET_OF), "3 planet 1 2 3")
        self.assertEqual(write_box(Box(1, [])), "1")
        self.assertEqual(write_box(Box(12, [("double", 11, 0, 12), ("pair", 10, 2), ("band", 1, 12)])),
                         "12 double 11 0 12 pair 10 2 band 1 12")
        self.assertEqual(write_box(box=SET_OF), "3 planet 1 2 3")

    def test_ratios(self):
        self.assertEqual(write_ratios(TWO, [None, None]), "? ?")
        self.assertEqual(write_ratios(TWO, [(5, 2), None]), "5/2 ?")
        self.assertEqual(write_ratios(TWO, [None, (3, 1)]), "? 3/1")
        self.assertEqual(write_ratios(Box(4, []), []), "-")
        self.assertEqual(write_ratios(ratios=[None], box=SET_OF), "?")

    def test_locks(self):
        self.assertEqual(write_locks(3, [(2, 1), (3, 0)]), "2-1 3-0")
        self.assertEqual(write_locks(3, []), "-")
        self.assertEqual(write_locks(12, [(11, 10)]), "11-10")
        self.assertEqual(write_locks(locks=[(1, 0)], shafts=1), "1-0")

    def test_ranges(self):
        self.assertEqual(write_range((0, 1), (1, 1)), "0/1..1/1")
        self.assertEqual(write_range(None, (-1, 2)), "*..-1/2")
        self.assertEqual(write_range((-7, 2), None), "-7/2..*")
        self.assertEqual(write_range(None, None), "*..*")
        self.assertEqual(write_range((2, 7), (2, 7)), "2/7")
        self.assertEqual(write_range((0, 1), (0, 1)), "0/1")
        # As they are passed.
        self.assertEqual(write_range((3, 1), (-1, 1)), "3/1..-1/1")
        self.assertEqual(write_range(high=(1, 1), low=None), "*..1/1")

    def test_fractions_of_any_size(self):
        great = 10 ** 40 + 7
        self.assertEqual(write_range((-great, 10 ** 39), None), f"-{great}/{10 ** 39}..*")
        for digits in (63, 64, 65, 128, 129, 200, 3000):
            for number in (10 ** digits, 10 ** digits - 1, 10 ** digits + 1, 7 * 10 ** digits + 10 ** (digits // 2)):
                self.assertEqual(write_range((number, 1), (number, 1)), f"{number}/1")
                self.assertEqual(write_range((-number, 1), None), f"-{number}/1..*")
        # Beyond what Python writes at once.
        self.assertEqual(write_range((10 ** 5000, 1), None), "1" + "0" * 5000 + "/1..*")
        self.assertEqual(write_ratios(SET_OF, [(1, 10 ** 5000)]), "1/1" + "0" * 5000)

    def test_ranges_of_the_package(self):
        self.assertEqual(write_range(*speed_range(SET_OF, [None], [(2, 0)], 1, 3)), "*..0/1")
        told = [(10 ** 12 - 1, 10 ** 12)]
        self.assertEqual(write_range(*speed_range(SET_OF, told, [(3, 0)], 1, 2)), f"{10 ** 12}/{2 * 10 ** 12 - 1}")

    def test_errors(self):
        for value in any_values():
            if type(value) is not Box:
                self.assertRaises(InvalidBox, write_box, value)
                self.assertRaises(InvalidBox, write_ratios, value, None)
            if not is_ratios(SET_OF, value):
                self.assertRaises(InvalidRatios, write_ratios, SET_OF, value)
            if not (type(value) is int and value >= 1):
                self.assertRaises(InvalidShafts, write_locks, value, [])
                self.assertRaises(InvalidShafts, write_locks, value, None)
            if not is_locks(3, value):
                self.assertRaises(InvalidLocks, write_locks, 3, value)
            if value is not None and not is_fraction(value):
                self.assertRaises(InvalidFraction, write_range, value, None)
                self.assertRaises(InvalidFraction, write_range, None, value)
                self.assertRaises(InvalidFraction, write_range, value, value)
        for value in ((2, 4), (1, 0), (1, -1), (True, 1), [1, 2], 1, "1/2", "*", (1,), (1, 2, 3), (0, 2), False):
            self.assertRaises(InvalidFraction, write_range, value, (1, 1))
            self.assertRaises(InvalidFraction, write_range, (1, 1), value)
        self.assertRaises(InvalidRatios, write_ratios, SET_OF, [])
        self.assertRaises(InvalidRatios, write_ratios, Box(2, []), [None])
        self.assertRaises(InvalidLocks, write_locks, 2, [(3, 0)])
        self.assertRaises(InvalidLocks, write_locks, 3, [(3, 0), (2, 1)])


class ReadTest(unittest.TestCase):
    def fails_at(self, place, call, *given):
        with self.subTest(given=given):
            with self.assertRaises(InvalidWords) as caught:
                call(*given)
            self.assertEqual(caught.exception.place, place)
            self.assertIs(type(caught.exception.place), int)
            self.assertIs(type(caught.exception), InvalidWords)

    def test_there_and_back(self):
        chance = random.Random(1)
        for box, ratios, locks in random_gears(1, 300, shafts=(1, 2, 3, 8)):
            if len(box) > 6:
                continue
            text = write_box(box)
            self.assertEqual(read_box(text), box)
            self.assertEqual(write_box(read_box(text)), text)
            self.assertEqual(read_ratios(box, write_ratios(box, ratios)), ratios)
            self.assertEqual(read_locks(box.shafts, write_locks(box.shafts, locks)), locks)
        for work in [random_work(chance, 8) for _ in range(100)]:
            self.assertEqual(read_box(write_box(Box(8, [work] * 6))), Box(8, [work] * 6))

    def test_boxes(self):
        found = read_box("3 planet 1 2 3")
        self.assertIs(type(found), Box)
        self.assertEqual(found, SET_OF)
        self.assertEqual(read_box("1"), Box(1, []))
        self.assertEqual(read_box("8"), Box(8, []))
        self.assertEqual(read_box("2 planet 0 1 2 double 2 0 1 pair 2 1 band 1 2"),
                         Box(2, [("planet", 0, 1, 2), ("double", 2, 0, 1), ("pair", 2, 1), ("band", 1, 2)]))
        self.assertEqual(read_box(words="2 pair 1 2"), Box(2, [("pair", 1, 2)]))
        self.assertEqual(read_box("2" + " pair 1 2" * 6), Box(2, [("pair", 1, 2)] * 6))

    def test_wrong_boxes(self):
        for place, words in (
                (0, ""), (0, " "), (0, "0"), (0, "9"), (0, "10"), (0, "03"), (0, "+3"), (0, "-3"), (0, "-0"),
                (0, "3.0"),
                (0, "x"), (0, " 3"), (0, "planet 1 2 3"), (0, "3\n"), (0, "1_0"), (0, "3x planet"), (0, "9 planet"),
                (0, "3" * 2000), (0, "\u0663"),
                (1, "1 planet 1 2 3"), (1, "1 planet"), (1, "1 pair 1 1"), (1, "1 band"), (1, "1 "), (1, "3 "),
                (1, "3  planet 1 2 3"), (1, "3 gear 1 2"), (1, "3 1 2"), (1, "3 Planet 1 2 3"), (1, "3 planet, 1 2 3"),
                (2, "3 planet"), (3, "3 planet 1"), (4, "3 planet 1 2"), (2, "3 pair"), (3, "3 pair 1"),
                (3, "3 band 2"),
                (2, "3 planet 4"), (2, "3 planet 4 2"), (2, "3 planet 01 2 3"), (2, "3 planet -1 2 3"),
                (2, "3 planet x"),
                (2, "3 planet  1 2 3"), (2, "3 planet +1"), (2, "3 planet 00"), (2, "3 planet -0"),
                (2, "3 planet 10 2"),
                (3, "3 planet 1 1 3"), (3, "3 planet 1 1"), (3, "3 planet 1 4 3"), (3, "3 double 0 0"),
                (4, "3 planet 1 2 1"), (4, "3 planet 1 2 2"), (4, "3 planet 1 2 4"), (4, "3 planet 1 2 "),
                (4, "3 planet 1 2 planet"), (5, "3 planet 1 2 3 "), (5, "3 planet 1 2 3 0"), (5, "3 planet 1 2 3 3"),
                (6, "3 planet 1 2 3 pair"), (7, "3 planet 1 2 3 pair 1"), (7, "3 planet 1 2 3 pair 1 1"),
                (2, "3 pair 0 1"), (3, "3 pair 1 0"), (3, "3 pair 1 1"), (4, "3 pair 1 2 3"), (2, "3 band 4 1"),
                (19, "2" + " pair 1 2" * 7), (19, "2" + " pair 1 2" * 6 + " "), (19, "2" + " pair 1 2" * 6 + " x"),
                (25, "3" + " planet 1 2 3" * 6 + " planet 1 2 3"), (18, "2" + " pair 1 2" * 5 + " pair 1")):
            self.fails_at(place, read_box, words)

    def test_ratios(self):
        self.assertEqual(read_ratios(SET_OF, "5/2"), [(5, 2)])
        self.assertEqual(read_ratios(SET_OF, "?"), [None])
        self.assertEqual(read_ratios(TWO, "? 999999999999/1"), [None, (999999999999, 1)])
        self.assertEqual(read_ratios(TWO, "1/999999999999 ?"), [(1, 999999999999), None])
        self.assertEqual(read_ratios(Box(2, []), "-"), [])
        self.assertEqual(read_ratios(words="1/1", box=SET_OF), [(1, 1)])

    def test_wrong_ratios(self):
        for place, words in (
                (0, ""), (0, " "), (0, "-"), (0, "- ?"), (0, "0/1 ?"), (0, "-5/2 ?"), (0, "10/4 ?"), (0, "5/0 ?"),
                (0, "5"), (0, "5/ ?"), (0, "/2"), (0, "/"), (0, "5/2/1 ?"), (0, "+5/2"), (0, "05/2"), (0, "5/02"),
                (0, "5/-2"), (0, "5/+2"), (0, "-0/1"), (0, "0/2"), (0, "None"), (0, "?? ?"), (0, "(5, 2)"),
                (0, "5.0/2"),
                (0, "1000000000000/1 ?"), (0, "1/1000000000000"), (0, "5 /2"), (0, " 5/2 ?"), (0, "5/2? ?"),
                (1, "5/2"), (1, "?"), (1, "? "), (1, "?  ?"), (1, "5/2 x"), (1, "5/2 -"), (1, "5/2 0/1"), (1, "? 2/2"),
                (2, "? ? ?"), (2, "? ? "), (2, "5/2 3/1 1/1"), (2, "5/2 3/1 x")):
            self.fails_at(place, read_ratios, TWO, words)
        for place, words in ((0, ""), (0, "?"), (0, "5/2"), (0, " -"), (0, "--"), (1, "- "), (1, "- -"), (1, "- ?")):
            self.fails_at(place, read_ratios, Box(2, []), words)

    def test_locks(self):
        self.assertEqual(read_locks(3, "2-1 3-0"), [(2, 1), (3, 0)])
        self.assertEqual(read_locks(3, "-"), [])
        self.assertEqual(read_locks(12, "9-3 11-10 12-0"), [(9, 3), (11, 10), (12, 0)])
        self.assertEqual(read_locks(words="1-0", shafts=1), [(1, 0)])
        row = all_locks(8)
        self.assertEqual(read_locks(8, " ".join(f"{a}-{b}" for a, b in row)), row)

    def test_wrong_locks(self):
        for place, words in (
                (0, ""), (0, " "), (0, "0-3"), (0, "3-3"), (0, "4-0"), (0, "3"), (0, "3-"), (0, "-3"), (0, "--"),
                (0, "3-0-1"),
                (0, "03-0"), (0, "3-00"), (0, "+3-0"), (0, "3--0"), (0, "3-x"), (0, "x-0"), (0, "3 -0"), (0, " 3-0"),
                (0, "3_0"), (0, "3-0,"), (0, "10-0"), (0, "9" * 1900 + "-0"), (0, "3--1"), (0, "-3-0"),
                (1, "- "), (1, "- -"), (1, "- 3-0"), (1, "2-1 -"), (1, "3-0 2-1"), (1, "3-0 3-0"), (1, "2-1  3-0"),
                (1, "2-1 "), (1, "2-1 4-0"), (1, "2-1 1-2"), (2, "2-1 3-0 2-0"), (2, "1-0 3-0 2-0"), (2, "2-1 3-0 "),
                (1, "3-2 3-3")):
            self.fails_at(place, read_locks, 3, words)

    def test_no_string(self):
        for value in any_values():
            if type(value) is not str:
                self.fails_at(0, read_box, value)
                self.fails_at(0, read_ratios, SET_OF, value)
                self.fails_at(0, read_locks, 3, value)
        for value in (b"3", ["3"], ("3", "planet"), 3, None):
            self.fails_at(0, read_box, value)

    def test_first_parameters_come_first(self):
        for value in any_values():
            if type(value) is not Box:
                self.assertRaises(InvalidBox, read_ratios, value, None)
            if not (type(value) is int and value >= 1):
                self.assertRaises(InvalidShafts, read_locks, value, None)

    def test_every_short_text(self):
        """Of all short texts just those are read that are written so, and the place is told by what may go on."""
        words = ("1", "2", "0", "planet", "pair", "", "03")
        texts = [" ".join(row) for size in range(1, 5) for row in product(words, repeat=size)]
        boxes = [Box(n, [list_of for list_of in works]) for n in (1, 2) for works in self.some_works(n)]
        written = {write_box(box) for box in boxes}
        beginnings = {tuple(text.split(" ")[:k]) for text in written for k in range(len(text.split(" ")) + 1)}
        for text in texts:
            row = text.split(" ")
            if text in written:
                self.assertEqual(write_box(read_box(text)), text)
                continue
            place = max(k for k in range(len(row) + 1) if tuple(row[:k]) in beginnings)
            self.fails_at(place, read_box, text)

    def some_works(self, n):
        works = [("planet", a, b, c) for a, b, c in product(range(n + 1), repeat=3) if len({a, b, c}) == 3]
        works += [("pair", a, b) for a, b in product(range(1, n + 1), repeat=2) if a != b]
        return [[]] + [[one] for one in works] + [[one, other] for one in works for other in works]

    def test_new_lists(self):
        for call, given in ((read_ratios, (SET_OF, "?")), (read_locks, (3, "3-0")), (read_locks, (3, "-")),
                            (read_ratios, (Box(2, []), "-"))):
            found = call(*given)
            found.append("more")
            self.assertNotIn("more", call(*given))

    def test_long_texts(self):
        for words in ("3" + " planet 1 2 3" * 150, "?" + " ?" * 999, "1-0" + " 2-0" * 400, "7" * 2000, " " * 2000,
                      "1/" + "1" * 1998, "-" * 2000, "~" * 2000):
            for call in (lambda: read_box(words), lambda: read_ratios(TWO, words), lambda: read_locks(8, words)):
                with self.assertRaises(InvalidWords):
                    call()

    def test_returned_ratios(self):
        """Ratios that the package returned are written, however long they are."""
        box = Box(3, [("double", 1, 2, 3)])
        found = undriven(box, [None], [(3, 0)], 1)
        self.assertEqual(read_ratios(box, write_ratios(box, found)), found)
        self.assertEqual(write_ratios(box, [TOLD[2]]), "1/3")
