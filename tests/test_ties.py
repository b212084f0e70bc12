import unittest
from fractions import Fraction
from itertools import combinations
from math import comb

from bentrows.drawings import drawing
from bentrows.errors import NoNumber, NoPlace, NoSheet
from bentrows.rings import outer_ring, rings_many
from bentrows.sheets import from_behind, sheared, turned_over
from bentrows.ties import crossings, depths_many, halving, sides
from samples import (BIG, CAP_THEN_CUP, DOWN_PARABOLA, LARGE, NESTED, NO_NUMBERS, NO_SHEETS, SHEETS, THINGS, TWELVE,
                     UP_PARABOLA, above, all_rings)

ONE = ((5, 5),)
TWO = ((5, 5), (6, 9))
SQUARE = ((0, 0), (1, 5), (3, -2), (7, 1))
# The point at place 2 lies inside the other three.
DENTED = ((0, 0), (1, 9), (3, 2), (9, 1))
NO_WHOLES = [thing for thing in THINGS if isinstance(thing, bool) or not isinstance(thing, int)]
ASKED = SHEETS + TWELVE + [NESTED, SQUARE, DENTED, CAP_THEN_CUP]


def slope(p, q):
    return Fraction(q[1] - p[1], q[0] - p[0])


def meet(sheet, a, b, c, d):
    """Whether the two ties have a point in common, by where their lines meet."""
    first, second = slope(sheet[a], sheet[b]), slope(sheet[c], sheet[d])
    if first == second:
        return False
    (ax, ay), (cx, cy) = sheet[a], sheet[c]
    x = (cy - ay + first * ax - second * cx) / (first - second)
    return max(ax, cx) < x < min(sheet[b][0], sheet[d][0])


def plain_crossings(sheet):
    ties = list(combinations(range(len(sheet)), 2))
    return [one + other for one in ties for other in ties
            if one[0] < other[0] and not set(one) & set(other) and meet(sheet, *one, *other)]


def plain_sides(sheet, i, j):
    others = [place for place in range(len(sheet)) if place not in (i, j)]
    high = [place for place in others if above(sheet, i, j, place)]
    return (len(high), len(others) - len(high))


class CrossingsTest(unittest.TestCase):
    """[81]: ties that cross."""

    def test_where_lines_meet(self):
        for sheet in ASKED:
            self.assertEqual(crossings(sheet), plain_crossings(sheet))

    def test_four_points(self):
        self.assertEqual(crossings(SQUARE), [(0, 3, 1, 2)])
        self.assertEqual(crossings(UP_PARABOLA[:4]), [(0, 2, 1, 3)])
        self.assertEqual(crossings(DOWN_PARABOLA[:4]), [(0, 2, 1, 3)])
        self.assertEqual(crossings(turned_over(SQUARE)), [(0, 3, 1, 2)])
        self.assertEqual(crossings(DENTED), [])

    def test_fewer_than_four_points(self):
        for sheet in [ONE, TWO, SQUARE[:3]] + [sheet for sheet in SHEETS if len(sheet) < 4]:
            self.assertEqual(crossings(sheet), [])

    def test_form(self):
        for sheet in ASKED + LARGE:
            told = crossings(sheet)
            self.assertIsInstance(told, list)
            self.assertEqual(told, sorted(told))
            self.assertEqual(len(told), len({frozenset([(a, b), (c, d)]) for a, b, c, d in told}))
            for a, b, c, d in told:
                self.assertTrue(a < b and c < d and a < c and len({a, b, c, d}) == 4)

    def test_parabolas_of_24_points(self):
        for sheet in (UP_PARABOLA, DOWN_PARABOLA):
            self.assertEqual(crossings(sheet), sorted((a, b, c, d) for a, c, b, d in combinations(range(24), 4)))

    def test_no_sheet(self):
        for thing in NO_SHEETS:
            self.assertRaises(NoSheet, crossings, thing)


class SidesTest(unittest.TestCase):
    """[82]: the sides of ties, their depths, and halving ties."""

    def test_sides(self):
        for sheet in ASKED + LARGE:
            for i, j in combinations(range(len(sheet)), 2):
                told = sides(sheet, i, j)
                self.assertIsInstance(told, tuple)
                self.assertEqual(told, plain_sides(sheet, i, j))

    def test_above_ahead_of_below(self):
        self.assertEqual(sides(TWO, 0, 1), (0, 0))
        self.assertEqual(sides(UP_PARABOLA, 0, 23), (0, 22))
        self.assertEqual(sides(UP_PARABOLA, 3, 4), (22, 0))
        self.assertEqual(sides(UP_PARABOLA, 3, 9), (17, 5))
        self.assertEqual(sides(DOWN_PARABOLA, 3, 9), (5, 17))

    def test_no_place(self):
        for sheet in (ONE, TWO, SQUARE, UP_PARABOLA):
            for thing in NO_WHOLES + [-1, -2, -len(sheet), len(sheet), 24, BIG, -BIG]:
                for i, j in ((thing, 1), (0, thing), (thing, thing)):
                    self.assertRaises(NoPlace, sides, sheet, i, j)

    def test_no_rising_places(self):
        for i in range(-1, 5):
            for j in range(-1, 5):
                if not 0 <= i < j < 4:
                    self.assertRaises(NoPlace, sides, SQUARE, i, j)
        for i, j in ((False, 1), (0, True), (False, True)):
            self.assertRaises(NoPlace, sides, SQUARE, i, j)
        self.assertRaises(NoPlace, sides, ONE, 0, 0)
        self.assertRaises(NoPlace, sides, ONE, 0, 1)

    def test_depths(self):
        for sheet in ASKED + LARGE:
            depths = [min(plain_sides(sheet, i, j)) for i, j in combinations(range(len(sheet)), 2)]
            for depth in range(26):
                self.assertEqual(depths_many(sheet, depth), depths.count(depth))
            self.assertEqual(depths_many(sheet, BIG), 0)

    def test_depths_of_few_points(self):
        self.assertEqual([depths_many(ONE, depth) for depth in range(3)], [0, 0, 0])
        self.assertEqual([depths_many(TWO, depth) for depth in range(3)], [1, 0, 0])
        self.assertEqual([depths_many(DENTED, depth) for depth in range(3)], [3, 3, 0])

    def test_no_depth(self):
        for sheet in (ONE, TWO, SQUARE, UP_PARABOLA):
            for wrong in NO_WHOLES + [-1, -2, -24, -BIG] + [thing for thing in NO_NUMBERS if type(thing) is not int]:
                self.assertRaises(NoNumber, depths_many, sheet, wrong)

    def test_halving(self):
        for sheet in ASKED + LARGE:
            told = halving(sheet)
            self.assertIsInstance(told, list)
            asked = []
            for i, j in combinations(range(len(sheet)), 2):
                high, low = plain_sides(sheet, i, j)
                if abs(high - low) <= 1:
                    asked.append((i, j))
            self.assertEqual(told, asked)

    def test_halving_of_few_points(self):
        self.assertEqual(halving(ONE), [])
        self.assertEqual(halving(TWO), [(0, 1)])
        self.assertEqual(halving(SQUARE[:3]), [(0, 1), (0, 2), (1, 2)])
        self.assertEqual(halving(SQUARE), [(0, 3), (1, 2)])
        self.assertEqual(halving(UP_PARABOLA), [(i, i + 12) for i in range(12)])
        self.assertEqual(halving(UP_PARABOLA[:5]), [(0, 2), (0, 3), (1, 3), (1, 4), (2, 4)])

    def test_no_sheet_ahead_of_all(self):
        for thing in NO_SHEETS:
            self.assertRaises(NoSheet, halving, thing)
            for wrong in (0, 1, -1, None, True):
                self.assertRaises(NoSheet, depths_many, thing, wrong)
                self.assertRaises(NoSheet, sides, thing, 0, wrong)
                self.assertRaises(NoSheet, sides, thing, wrong, wrong)


class WhatFollowsTest(unittest.TestCase):
    """[83], and [6]."""

    def test_as_many_as_rings_of_four(self):
        for sheet in ASKED:
            self.assertEqual(len(crossings(sheet)), len([ring for ring in all_rings(sheet) if len(ring) == 4]))
        for sheet in ASKED + LARGE + [drawing(5, 4), drawing(4, 6)]:
            self.assertEqual(len(crossings(sheet)), rings_many(sheet, 4))

    def test_each_four_places_once_at_most(self):
        for sheet in ASKED + LARGE:
            fours = [tuple(sorted(ties)) for ties in crossings(sheet)]
            self.assertEqual(len(fours), len(set(fours)))

    def test_the_sum_over_all_ties(self):
        for sheet in ASKED + LARGE:
            total = 0
            for i, j in combinations(range(len(sheet)), 2):
                high, low = sides(sheet, i, j)
                total += high * low
            self.assertEqual(len(crossings(sheet)), 3 * comb(len(sheet), 4) - total)

    def test_odd_numbers_of_halving_ties(self):
        for sheet in ASKED + LARGE:
            if len(sheet) % 2 == 0:
                for place in range(len(sheet)):
                    self.assertEqual(len([tie for tie in halving(sheet) if place in tie]) % 2, 1)

    def test_depth_nought(self):
        for sheet in ASKED + LARGE:
            if len(sheet) > 2:
                self.assertEqual(depths_many(sheet, 0), len(outer_ring(sheet)))

    def test_moved_sheets(self):
        for sheet in ASKED + LARGE[:2]:
            moved = sheared(sheet, -BIG)
            self.assertEqual(crossings(moved), crossings(sheet))
            self.assertEqual(halving(moved), halving(sheet))
            for other in (turned_over(sheet), from_behind(sheet)):
                self.assertEqual(len(crossings(other)), len(crossings(sheet)))
                for depth in range(4):
                    self.assertEqual(depths_many(other, depth), depths_many(sheet, depth))


if __name__ == "__main__":
    unittest.main()
