import random
import unittest
from itertools import combinations, product

from bentrows.bothways import room
from bentrows.drawings import drawing, lacks, ringless, set_beside
from bentrows.errors import NoNumber, NoSheet, TooMany
from bentrows.rings import greatest_ring, rings_many
from bentrows.rows import longest_cap, longest_cup
from bentrows.sheets import is_sheet, sheared, sheet_of, turned_over
from samples import (BIG, DOWN_PARABOLA, LARGE, NO_NUMBERS, NO_SHEETS, SHEETS, SMALL, THINGS, UP_PARABOLA, above,
                     all_rings, all_rows, made_sheet, on_line)

ONE = ((5, 5),)
NUMBERS = range(2, 10)
BEYOND = NO_NUMBERS + [10, 11, 24, 1000]
FITTING = [(k, l) for k, l in product(NUMBERS, NUMBERS) if room(k, l) <= 24]
STEEP = ((0, 0), (1, BIG), (2, -BIG), (3, BIG - 9), (BIG, 4))
# Pairs whose steepest lines, led on, come near to the other one.
RISING = ((0, 0), (1, 10))
FALLING = ((0, 0), (1, -10), (2, -19), (3, -27), (4, -34))
FLAT = ((0, 3), (4, 3))
ZIGZAG = ((0, 0), (1, -50), (2, 50))
NEAR = list(product([RISING, FALLING, FLAT, ZIGZAG, ONE, turned_over(ZIGZAG), ((0, 0), (30, 1))], repeat=2))
TWOS = NEAR + list(product(SHEETS[::4] + [STEEP], SHEETS[::3] + [STEEP])) + [
    (UP_PARABOLA[:12], DOWN_PARABOLA[:12]), (DOWN_PARABOLA[:23], ONE), (ONE, UP_PARABOLA[:23]), (ONE, ONE),
    (made_sheet(12, BIG, 3), made_sheet(12, 30, 4))]


class SetBesideTest(unittest.TestCase):
    """[61]: two sheets beside one another."""

    def test_each_three_turns_as_told(self):
        for one, other in TWOS:
            told = set_beside(one, other)
            self.assertIs(is_sheet(told), True)
            self.assertEqual(len(told), len(one) + len(other))
            for three in combinations(range(len(told)), 3):
                ahead = len([place for place in three if place < len(one)])
                if ahead == 3:
                    up = above(one, *three)
                elif ahead == 0:
                    up = above(other, *[place - len(one) for place in three])
                else:
                    up = ahead == 2
                self.assertIs(above(told, *three), up)

    def test_rows_with_places_of_both(self):
        for one, other in product(SMALL[::5], SMALL[::4]):
            told = set_beside(one, other)
            for cup in all_rows(told, True) if len(told) < 11 else []:
                if cup[0] < len(one) <= cup[-1]:
                    self.assertEqual(len([place for place in cup if place >= len(one)]), 1)
            for cap in all_rows(told, False) if len(told) < 11 else []:
                if cap[0] < len(one) <= cap[-1]:
                    self.assertEqual(len([place for place in cap if place < len(one)]), 1)

    def test_told_sheets_again(self):
        sheet = ONE
        for turn in range(5):
            sheet = set_beside(sheet, STEEP[:3])
            self.assertIs(is_sheet(sheet), True)
        self.assertEqual(len(set_beside(sheet[:12], sheet[4:])), 24)

    def test_too_many(self):
        for one, other in ((24, 1), (1, 24), (12, 13), (13, 12), (24, 24), (23, 2)):
            self.assertRaises(TooMany, set_beside, UP_PARABOLA[:one], DOWN_PARABOLA[:other])
        for one, other in ((23, 1), (1, 23), (12, 12)):
            self.assertEqual(len(set_beside(UP_PARABOLA[:one], DOWN_PARABOLA[:other])), 24)

    def test_no_sheet_ahead_of_too_many(self):
        for thing in NO_SHEETS:
            for sheet in (ONE, UP_PARABOLA, thing):
                self.assertRaises(NoSheet, set_beside, thing, sheet)
                self.assertRaises(NoSheet, set_beside, sheet, thing)


class LacksTest(unittest.TestCase):
    """[62]: sheets that lack a cup and a cap."""

    def test_as_all_rows_say(self):
        for sheet in SHEETS:
            cup = max([len(row) for row in all_rows(sheet, True)], default=1)
            cap = max([len(row) for row in all_rows(sheet, False)], default=1)
            for k, l in product(NUMBERS, NUMBERS):
                self.assertIs(lacks(sheet, k, l), cup < k and cap < l)

    def test_edges(self):
        self.assertIs(lacks(ONE, 2, 2), True)
        self.assertIs(lacks(ONE + ((6, 6),), 2, 9), False)
        self.assertIs(lacks(ONE + ((6, 6),), 9, 2), False)
        self.assertIs(lacks(ONE + ((6, 6),), 3, 3), True)
        self.assertIs(lacks(UP_PARABOLA, 9, 3), False)
        self.assertIs(lacks(UP_PARABOLA[:8], 9, 3), True)
        self.assertIs(lacks(DOWN_PARABOLA[:8], 3, 9), True)

    def test_no_number_behind_no_sheet(self):
        for wrong in BEYOND:
            for k, l in ((wrong, 3), (3, wrong), (wrong, wrong)):
                self.assertRaises(NoNumber, lacks, ONE, k, l)
                self.assertRaises(NoNumber, lacks, UP_PARABOLA, k, l)
        for thing in NO_SHEETS:
            for k in (3, None, 1):
                self.assertRaises(NoSheet, lacks, thing, k, k)


class DrawingTest(unittest.TestCase):
    """[62]: drawings of two numbers."""

    def test_every_two_numbers_with_room(self):
        for k, l in FITTING:
            told = drawing(k, l)
            self.assertIs(is_sheet(told), True)
            self.assertEqual(len(told), room(k, l))
            self.assertIs(lacks(told, k, l), True)

    def test_rows_one_by_one(self):
        for k, l in FITTING:
            told = drawing(k, l)
            if len(told) <= 10:
                self.assertLess(max([len(row) for row in all_rows(told, True)], default=1), k)
                self.assertLess(max([len(row) for row in all_rows(told, False)], default=1), l)

    def test_too_many(self):
        for k, l in product(NUMBERS, NUMBERS):
            if (k, l) not in FITTING:
                self.assertRaises(TooMany, drawing, k, l)
        self.assertRaises(TooMany, drawing, 4, 8)
        self.assertRaises(TooMany, drawing, 6, 5)
        self.assertEqual(len(drawing(7, 4)), 21)

    def test_no_number_ahead_of_too_many(self):
        for wrong in BEYOND:
            for number in NUMBERS:
                self.assertRaises(NoNumber, drawing, wrong, number)
                self.assertRaises(NoNumber, drawing, number, wrong)
            self.assertRaises(NoNumber, drawing, wrong, wrong)


class RinglessTest(unittest.TestCase):
    """[63]: sheets without a ring of so many places."""

    def test_each_number(self):
        for many, points in ((3, 2), (4, 4), (5, 8), (6, 16)):
            told = ringless(many)
            self.assertIs(is_sheet(told), True)
            self.assertEqual(len(told), points)
            self.assertEqual(rings_many(told, many), 0)
            if many > 3:
                self.assertLess(len(greatest_ring(told)), many)

    def test_rings_one_by_one(self):
        for many in (3, 4, 5):
            self.assertEqual([ring for ring in all_rings(ringless(many)) if len(ring) >= many], [])

    def test_no_number(self):
        for wrong in NO_NUMBERS + [2, 7, 8, 24, 100]:
            self.assertRaises(NoNumber, ringless, wrong)
        for wrong in THINGS:
            self.assertRaises(NoNumber, ringless, wrong)


class WhatFollowsTest(unittest.TestCase):
    """[64], and [6]: no drawing has what it is to lack."""

    def other_points(self, sheet):
        source = random.Random(len(sheet))
        left, right = sheet[0][0] - 3, sheet[-1][0] + 3
        low, high = min(y for x, y in sheet) - 9, max(y for x, y in sheet) + 9
        points = [(source.randint(left, right), source.randint(low, high)) for turn in range(60)]
        points += [(left - BIG, source.randint(-BIG, BIG)), (right + BIG, source.randint(-BIG, BIG))]
        return points + [(left, BIG), (right, BIG), (left, -BIG), (right, -BIG)]

    def test_any_point_more(self):
        tried = 0
        for k, l in FITTING:
            told = drawing(k, l)
            # Ten times as wide, for places between the points.
            told = tuple((10 * x, 10 * y) for x, y in told)
            self.assertIs(lacks(told, k, l), True)
            for point in self.other_points(told):
                if point[0] not in [x for x, y in told] and not any(
                        on_line(p, q, point) for p, q in combinations(told, 2)):
                    tried += 1
                    self.assertIs(lacks(sheet_of(list(told) + [point]), k, l), False)
        self.assertGreater(tried, 1000)

    def test_turned_over(self):
        for k, l in FITTING:
            over = turned_over(drawing(k, l))
            self.assertIs(lacks(over, l, k), True)
            self.assertEqual(len(over), room(l, k))

    def test_longest_of_two_beside_one_another(self):
        for one, other in TWOS:
            told = set_beside(one, other)
            for longest, ahead, behind in ((longest_cup, one, other), (longest_cap, other, one)):
                # A sheet of one point has no row; its one place counts here as a row of one.
                most = max(len(longest(behind) or (0,)), len(longest(ahead) or (0,)) + 1)
                self.assertEqual(len(longest(told)), most)

    def test_the_same_turns(self):
        for sheet in SHEETS + LARGE:
            for k, l in ((2, 2), (3, 4), (5, 3), (9, 9)):
                self.assertIs(lacks(sheared(sheet, BIG), k, l), lacks(sheet, k, l))


if __name__ == "__main__":
    unittest.main()
