import unittest
from itertools import combinations

from bentrows.empties import empties_many, empty_three, greatest_empty, is_empty_ring, within
from bentrows.errors import NoNumber, NoRing, NoSheet, TooMany
from bentrows.rings import is_ring, outer_ring
from bentrows.sheets import from_behind, sheared, turned_over
from samples import (BIG, DOWN_PARABOLA, LARGE, NESTED, NO_NUMBERS, NO_SHEETS, SHEETS, TEN, THINGS, TWELVE, UP_PARABOLA,
                     all_rings, made_sheet, plain_within)

ONE = ((5, 5),)
TWO = ((5, 5), (6, 9))
DENTED = ((0, 0), (1, 9), (3, 2), (9, 1))
CORNERS = range(3, 25)
NO_RINGS = THINGS + [(0, 1), [0, 1, 2], (0, 1, 1), (2, 1, 0), (0, 1, 24), (-1, 0, 1), (False, 1, 2), (0, 1, None),
                     (0, 1, (2,)), (0, 1, 2, BIG), "012", ((0, 1, 2),)]
ASKED = [sheet for sheet in SHEETS + TEN if len(sheet) > 2] + [NESTED, DENTED]


def plain_empties(sheet):
    return [ring for ring in all_rings(sheet) if plain_within(sheet, ring) == []]


class WithinTest(unittest.TestCase):
    """[51]: the places within, and which rings are empty."""

    def test_each_ring(self):
        for sheet in ASKED:
            for ring in all_rings(sheet):
                inside = plain_within(sheet, ring)
                self.assertEqual(within(sheet, ring), inside)
                self.assertIs(is_empty_ring(ring, sheet), inside == [])

    def test_24_points(self):
        for sheet in LARGE:
            for ring in [outer_ring(sheet)] + list(combinations(range(24), 3))[::23]:
                inside = plain_within(sheet, ring)
                self.assertEqual(within(sheet, ring), inside)
                self.assertIs(is_empty_ring(ring, sheet), inside == [])
        self.assertEqual(within(UP_PARABOLA, (0, 12, 23)), [])

    def test_all_others_lie_in_the_outer_ring(self):
        for sheet in ASKED + LARGE + TWELVE:
            outer = outer_ring(sheet)
            self.assertEqual(within(sheet, outer), [place for place in range(len(sheet)) if place not in outer])
        self.assertEqual(within(NESTED, (0, 6, 7)), [1, 2, 3, 4, 5])

    def test_above_and_below(self):
        # Between the first and the last place, but beyond the low row, or the high row.
        self.assertEqual(within(((0, 0), (2, -3), (3, 5), (5, -1), (9, 0)), (0, 2, 4)), [])
        self.assertEqual(within(((0, 0), (2, 3), (3, 4), (5, 1), (9, 0)), (0, 2, 4)), [3])
        self.assertEqual(within(((0, 0), (2, 2), (3, 4), (5, 1), (9, 0)), (0, 2, 4)), [1, 3])
        self.assertEqual(within(((0, 0), (2, 9), (3, 4), (5, 1), (9, 0)), (0, 2, 4)), [3])
        self.assertEqual(within(((0, 0), (2, -2), (3, -4), (5, -1), (9, 0)), (0, 2, 4)), [1, 3])

    def test_dented_places_are_no_empty_ring(self):
        self.assertIs(is_empty_ring((0, 1, 2, 3), DENTED), False)
        self.assertIs(is_empty_ring((0, 1, 3), DENTED), False)
        self.assertIs(is_empty_ring((0, 1, 2), DENTED), True)

    def test_things_of_whatever_kind(self):
        for sheet in (ONE, TWO, UP_PARABOLA[:5], DOWN_PARABOLA, NESTED):
            for thing in NO_RINGS + [sheet]:
                self.assertIs(is_empty_ring(thing, sheet), False, thing)
                self.assertRaises(NoRing, within, sheet, thing)
                self.assertRaises(NoRing, empty_three, sheet, thing)

    def test_no_ring_of_dented_places(self):
        for sheet in ASKED:
            rings = all_rings(sheet)
            for row in combinations(range(len(sheet)), 4):
                if row not in rings:
                    self.assertIs(is_empty_ring(row, sheet), False)
                    self.assertRaises(NoRing, within, sheet, row)
                    self.assertRaises(NoRing, empty_three, sheet, row)

    def test_no_sheet_ahead_of_no_ring(self):
        for thing in NO_SHEETS:
            for ring in ((0, 1, 2), None, (0, 1)):
                self.assertRaises(NoSheet, is_empty_ring, ring, thing)
                self.assertRaises(NoSheet, within, thing, ring)
                self.assertRaises(NoSheet, empty_three, thing, ring)


class EmptiesTest(unittest.TestCase):
    """[52]: how many empty rings there are, and a greatest one."""

    def test_counted(self):
        for sheet in ASKED:
            empties = plain_empties(sheet)
            for many in CORNERS:
                self.assertEqual(empties_many(sheet, many), len([ring for ring in empties if len(ring) == many]))

    def test_greatest(self):
        for sheet in ASKED:
            empties = plain_empties(sheet)
            self.assertIn(greatest_empty(sheet), empties)
            self.assertEqual(len(greatest_empty(sheet)), max(len(ring) for ring in empties))
        self.assertEqual(greatest_empty(UP_PARABOLA[:10]), tuple(range(10)))

    def test_one_and_two_points(self):
        for sheet in (ONE, TWO):
            self.assertIsNone(greatest_empty(sheet))
            self.assertEqual([empties_many(sheet, many) for many in CORNERS], [0] * 22)

    def test_no_number_ahead_of_too_many(self):
        for wrong in NO_NUMBERS + [2, 25, 26, 100]:
            for sheet in (ONE, DENTED, TEN[0], TWELVE[0], UP_PARABOLA):
                self.assertRaises(NoNumber, empties_many, sheet, wrong)

    def test_too_many(self):
        for sheet in [made_sheet(11, 40, 4), UP_PARABOLA[:11], *TWELVE, *LARGE]:
            self.assertRaises(TooMany, greatest_empty, sheet)
            for many in CORNERS:
                self.assertRaises(TooMany, empties_many, sheet, many)

    def test_no_sheet_ahead_of_all(self):
        for thing in NO_SHEETS:
            self.assertRaises(NoSheet, greatest_empty, thing)
            for many in (3, None, 2):
                self.assertRaises(NoSheet, empties_many, thing, many)


class EmptyThreeTest(unittest.TestCase):
    """[53]: in each ring lies an empty one of three places."""

    def check_three(self, sheet, ring):
        three = empty_three(sheet, ring)
        self.assertIsInstance(three, tuple)
        self.assertEqual(len(three), 3)
        self.assertIs(is_empty_ring(three, sheet), True)
        self.assertEqual(plain_within(sheet, three), [])
        for place in three:
            self.assertIn(place, list(ring) + plain_within(sheet, ring))

    def test_every_ring(self):
        for sheet in ASKED:
            for ring in all_rings(sheet):
                self.check_three(sheet, ring)

    def test_24_points(self):
        for sheet in LARGE:
            for ring in [outer_ring(sheet)] + list(combinations(range(24), 3))[::23]:
                self.check_three(sheet, ring)


class WhatFollowsTest(unittest.TestCase):
    """[54], and [6]: what is told of turns alone."""

    def test_taken_by_turns_from_one_another(self):
        for sheet in ASKED:
            told = sum((-1) ** (many - 3) * empties_many(sheet, many) for many in CORNERS)
            self.assertEqual(told, (len(sheet) - 1) * (len(sheet) - 2) // 2)

    def test_four_places_of_five_points(self):
        for sheet in ASKED:
            if len(sheet) > 4:
                self.assertGreater(empties_many(sheet, 4), 0)
                self.assertGreater(len(greatest_empty(sheet)), 3)

    def test_parts_of_empty_rings(self):
        for sheet in [sheet for sheet in ASKED if len(sheet) < 8]:
            for ring in plain_empties(sheet):
                for many in range(3, len(ring)):
                    for part in combinations(ring, many):
                        self.assertIs(is_empty_ring(part, sheet), True)

    def test_moved_sheets(self):
        for sheet in ASKED:
            for moved in (sheared(sheet, -7), turned_over(sheet), from_behind(sheet)):
                for many in (3, 4, 5, 6):
                    self.assertEqual(empties_many(moved, many), empties_many(sheet, many))
                self.assertEqual(len(greatest_empty(moved)), len(greatest_empty(sheet)))

    def test_the_same_turns(self):
        for sheet in ASKED:
            moved = sheared(sheet, BIG)
            self.assertEqual(greatest_empty(moved), greatest_empty(sheet))
            for ring in all_rings(sheet)[::5]:
                self.assertIs(is_ring(ring, moved), True)
                self.assertEqual(within(moved, ring), within(sheet, ring))
                self.assertEqual(empty_three(moved, ring), empty_three(sheet, ring))


if __name__ == "__main__":
    unittest.main()
