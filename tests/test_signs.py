import random
import unittest
from itertools import combinations, product

from bentrows.errors import NoNumber, NoSheet, NoSigns
from bentrows.rings import is_ring
from bentrows.rows import longest_cup
from bentrows.sheets import from_behind, is_sheet, sheared, turned_over
from bentrows.signs import (all_signs, are_signs, cup_by_signs, is_ring_by_signs, sheet_by_signs, signs_of)
from samples import (BIG, CAP_THEN_CUP, DOWN_PARABOLA, LARGE, NESTED, NO_NUMBERS, NO_SHEETS, SHEETS, THINGS, TWELVE,
                     UP_PARABOLA, above, all_rings, all_rows, made_sheet)

ASKED = SHEETS + TWELVE[:1] + [NESTED, CAP_THEN_CUP]


def plain_threes(many):
    return list(combinations(range(many), 3))


def plain_signs(sheet):
    return tuple(1 if above(sheet, *three) else -1 for three in plain_threes(len(sheet)))


def change_at_most_once(many, signs):
    turns = dict(zip(plain_threes(many), signs))
    for four in combinations(range(many), 4):
        row = "".join("+" if turns[three] == 1 else "-" for three in combinations(four, 3))
        if row.count("+-") + row.count("-+") > 1:
            return False
    return True


def walked_signs(many, seed):
    """Signs reached from those of a sheet, one exchanged after the other: not all of them are a sheet's."""
    source = random.Random(seed)
    signs = plain_signs(made_sheet(many, 40, seed))
    for step in range(40 * len(signs)):
        at = source.randrange(len(signs))
        other = signs[:at] + (-signs[at],) + signs[at + 1:]
        if change_at_most_once(many, other):
            signs = other
    return signs


def rows_by_signs(many, signs):
    turns = dict(zip(plain_threes(many), signs))
    return [row for size in range(2, many + 1) for row in combinations(range(many), size)
            if all(turns[three] == 1 for three in combinations(row, 3))]


def is_ring_of_fours(ring, many, signs):
    """Whether three or more places are a ring: so they are just where each four of them are."""
    turns = dict(zip(plain_threes(many), signs))
    for four in combinations(ring, 4):
        row = [turns[three] for three in combinations(four, 3)]
        if row[0] != row[1] or row[2] != row[3]:
            return False
    return True


WALKED = [(many, walked_signs(many, seed)) for seed, many in enumerate((5, 6, 7, 7, 8, 9))]


def no_numbers(most):
    """Of whatever kind, and no whole number from 1 to the most."""
    things = NO_NUMBERS + [most + 1, most + 2, 100]
    return [thing for thing in things if type(thing) is not int or not 1 <= thing <= most]


class AreSignsTest(unittest.TestCase):
    """[71]: which things are signs, and those of a sheet."""

    def test_signs_of_sheets(self):
        for sheet in ASKED + LARGE:
            told = signs_of(sheet)
            self.assertIsInstance(told, tuple)
            self.assertEqual(told, plain_signs(sheet))
            self.assertEqual({type(sign) for sign in told} - {int}, set())
            self.assertIs(are_signs(len(sheet), told), True)

    def test_in_the_order_of_the_threes(self):
        sheet = ((0, 0), (1, 0), (2, 4), (3, 7))
        self.assertEqual(signs_of(sheet), (1, 1, 1, -1))
        self.assertEqual(signs_of(from_behind(sheet)), (-1, 1, 1, 1))
        self.assertEqual(signs_of(UP_PARABOLA), (1,) * 2024)
        self.assertEqual(signs_of(((0, 0), (1, 1), (2, 5), (3, -90), (4, 3))), (1, -1, -1, -1, -1, 1, -1, -1, 1, 1))

    def test_no_sheet(self):
        for thing in NO_SHEETS:
            self.assertRaises(NoSheet, signs_of, thing)

    def test_few_places(self):
        for many in (1, 2):
            self.assertIs(are_signs(many, ()), True)
            self.assertIs(are_signs(many, (1,)), False)
            self.assertEqual(signs_of(UP_PARABOLA[:many]), ())
        self.assertIs(are_signs(3, ()), False)
        self.assertIs(are_signs(3, (1,)), True)
        self.assertIs(are_signs(3, (-1,)), True)
        self.assertIs(are_signs(3, (1, 1)), False)

    def test_all_tuples_of_four_places(self):
        once = [(1, 1, 1, 1), (1, 1, 1, -1), (1, 1, -1, -1), (1, -1, -1, -1)]
        once += [tuple(-sign for sign in signs) for signs in once]
        for signs in product((1, -1), repeat=4):
            self.assertIs(are_signs(4, signs), signs in once)

    def test_all_tuples_of_five_places(self):
        for signs in product((1, -1), repeat=10):
            self.assertIs(are_signs(5, signs), change_at_most_once(5, signs))

    def test_one_exchanged(self):
        found = []
        for sheet in ASKED:
            signs = signs_of(sheet)
            for at in range(len(signs)):
                other = signs[:at] + (-signs[at],) + signs[at + 1:]
                found.append(are_signs(len(sheet), other))
                self.assertIs(found[-1], change_at_most_once(len(sheet), other))
        self.assertIn(True, found)
        self.assertIn(False, found)

    def test_one_exchanged_of_24_places(self):
        for at in (0, 700, 2023):
            signs = [1] * 2024
            signs[at] = -1
            self.assertIs(are_signs(24, tuple(signs)), change_at_most_once(24, signs))

    def test_one_left_out_put_in_or_another_thing(self):
        for sheet in [sheet for sheet in ASKED if len(sheet) > 2] + LARGE[:1]:
            signs = signs_of(sheet)
            many = len(sheet)
            for at in {0, len(signs) // 2, len(signs) - 1}:
                self.assertIs(are_signs(many, signs[:at] + signs[at + 1:]), False)
                for more in (1, -1, 0, None):
                    self.assertIs(are_signs(many, signs[:at] + (more,) + signs[at:]), False)
                for instead in (0, 2, -2, 3, BIG, True, False, None, "1", "-1", [1], (1,), (), {}, {1: 1}):
                    self.assertIs(are_signs(many, signs[:at] + (instead,) + signs[at + 1:]), False)

    def test_truths_are_no_signs(self):
        self.assertIs(are_signs(3, (True,)), False)
        self.assertIs(are_signs(4, (1, 1, True, 1)), False)

    def test_signs_of_another_many(self):
        for many, other in product(range(1, 9), repeat=2):
            signs = signs_of(UP_PARABOLA[:other])
            self.assertIs(are_signs(many, signs), len(plain_threes(many)) == len(signs))

    def test_things_of_whatever_kind(self):
        for many in (1, 2, 3, 4, 5, 24):
            for thing in THINGS + [[1], [1, 1, 1, 1], {1: 1}, "1", "1111", ((1,),), ((1, 1, 1, 1),), {(0, 1, 2): 1}, 1,
                                   list(signs_of(UP_PARABOLA[:many]))]:
                self.assertIs(are_signs(many, thing), many < 3 and thing == () and isinstance(thing, tuple), thing)

    def test_no_number(self):
        for wrong in no_numbers(24):
            for thing in ((), (1,), None, wrong):
                self.assertRaises(NoNumber, are_signs, wrong, thing)

    def test_walked_signs(self):
        for many, signs in WALKED:
            self.assertIs(are_signs(many, signs), True)


class BySignsTest(unittest.TestCase):
    """[72], and [6]: cups and rings by signs alone."""

    def test_the_same_cup_as_the_sheet_has(self):
        for sheet in ASKED + LARGE:
            signs = signs_of(sheet)
            self.assertEqual(cup_by_signs(len(sheet), signs), longest_cup(sheet))
            self.assertEqual(cup_by_signs(len(sheet), signs), longest_cup(sheared(sheet, 17)))

    def test_first_of_the_longest_of_a_sheet(self):
        for sheet in SHEETS:
            rows = all_rows(sheet, True)
            asked = min(rows, key=lambda row: (-len(row), row)) if rows else None
            self.assertEqual(cup_by_signs(len(sheet), signs_of(sheet)), asked)

    def test_first_of_the_longest_of_signs(self):
        for many, signs in WALKED + [(5, signs) for signs in all_signs(5)]:
            rows = rows_by_signs(many, signs)
            self.assertEqual(cup_by_signs(many, signs), min(rows, key=lambda row: (-len(row), row)))

    def test_several_longest(self):
        # Both (0, 1, 3) and (0, 2, 3) turn up, and no four do.
        self.assertEqual(cup_by_signs(4, (-1, 1, 1, 1)), (0, 1, 3))
        self.assertEqual(cup_by_signs(4, (-1, -1, -1, -1)), (0, 1))

    def test_cups_of_few_places(self):
        self.assertIsNone(cup_by_signs(1, ()))
        self.assertEqual(cup_by_signs(2, ()), (0, 1))
        self.assertEqual(cup_by_signs(3, (1,)), (0, 1, 2))
        self.assertEqual(cup_by_signs(3, (-1,)), (0, 1))

    def test_the_same_rings_as_the_sheet_has(self):
        for sheet in ASKED:
            signs = signs_of(sheet)
            rings = all_rings(sheet)
            rows = [row for many in range(len(sheet) + 1) for row in combinations(range(len(sheet)), many)]
            for row in rows if len(rows) < 300 else rows[::9]:
                self.assertIs(is_ring_by_signs(row, len(sheet), signs), row in rings)

    def test_rings_of_24_places(self):
        for sheet in LARGE:
            signs = signs_of(sheet)
            for ring in list(combinations(range(24), 4))[::997] + [tuple(range(24)), (0, 5, 9, 23, 22)]:
                self.assertIs(is_ring_by_signs(ring, 24, signs), is_ring(ring, sheet))

    def test_rings_of_signs(self):
        for many, signs in WALKED:
            for size in range(many + 1):
                for row in combinations(range(many), size):
                    asked = size > 2 and is_ring_of_fours(row, many, signs)
                    self.assertIs(is_ring_by_signs(row, many, signs), asked)

    def test_things_asked_to_be_a_ring(self):
        for sheet in (UP_PARABOLA[:1], UP_PARABOLA[:2], UP_PARABOLA[:5], DOWN_PARABOLA):
            for thing in THINGS + [[0, 1, 2], (0, 1), (0, 1, 1), (2, 1, 0), (0, 1, 24), (-1, 0, 1), (False, True, 2),
                                   (0, True, 2), (0, 1, None), (0, 1, "2"), (0, 1, (2,)), {0: 0, 1: 1, 2: 2}, "012",
                                   ((0, 1, 2),), (0, 1, BIG), sheet, signs_of(sheet)]:
                self.assertIs(is_ring_by_signs(thing, len(sheet), signs_of(sheet)), False, thing)
        self.assertIs(is_ring_by_signs((0, 1, 2), 3, (1,)), True)
        self.assertIs(is_ring_by_signs((0, 1, 3), 3, (1,)), False)

    def test_no_number_ahead_of_no_signs(self):
        for wrong in no_numbers(24):
            for signs in ((), (1,), None, [1], wrong):
                self.assertRaises(NoNumber, cup_by_signs, wrong, signs)
                self.assertRaises(NoNumber, is_ring_by_signs, (0, 1, 2), wrong, signs)
                self.assertRaises(NoNumber, is_ring_by_signs, None, wrong, signs)

    def test_no_signs(self):
        for many in (3, 4, 5, 24):
            for signs in THINGS + [[1], [1, 1, 1, 1], (1, -1, 1, 1), (1, 1, 0, 1), (1, True, 1, 1), (True,), (0,), (2,),
                                   (1, 1), (1,) * 9, (1,) * 11, (1,) * 2023, (-1,) * 9 + (0,), "1"]:
                self.assertRaises(NoSigns, cup_by_signs, many, signs)
                for ring in ((0, 1, 2), None, []):
                    self.assertRaises(NoSigns, is_ring_by_signs, ring, many, signs)
        for many in (1, 2):
            for signs in ((1,), [], None, "", {}):
                self.assertRaises(NoSigns, cup_by_signs, many, signs)
                self.assertRaises(NoSigns, is_ring_by_signs, (0, 1, 2), many, signs)


class AllSignsTest(unittest.TestCase):
    """[73]: all signs, and sheets that have them."""

    def test_all_of_1_to_5_places(self):
        for many in range(1, 6):
            tuples = product((-1, 1), repeat=len(plain_threes(many)))
            told = all_signs(many)
            self.assertIsInstance(told, list)
            self.assertEqual(told, [signs for signs in tuples if change_at_most_once(many, signs)])
            self.assertEqual(told, sorted(told))
        self.assertEqual([len(all_signs(many)) for many in range(1, 6)], [1, 1, 2, 8, 62])
        self.assertEqual(all_signs(3), [(-1,), (1,)])

    def test_those_of_each_sheet_are_among_them(self):
        for sheet in SHEETS:
            if len(sheet) < 6:
                self.assertIn(signs_of(sheet), all_signs(len(sheet)))

    def test_all_signs_of_no_number(self):
        for wrong in no_numbers(5) + [6, 7, 24]:
            self.assertRaises(NoNumber, all_signs, wrong)

    def test_sheets_of_all_signs(self):
        for many in range(1, 5):
            for signs in all_signs(many):
                sheet = sheet_by_signs(many, signs)
                self.assertIs(is_sheet(sheet), True)
                self.assertEqual(len(sheet), many)
                self.assertEqual(plain_signs(sheet), signs)

    def test_sheets_of_no_number(self):
        for wrong in no_numbers(4) + [5, 6, 24]:
            for signs in ((), (1,), None, (1,) * 10, signs_of(UP_PARABOLA), wrong):
                self.assertRaises(NoNumber, sheet_by_signs, wrong, signs)

    def test_sheets_of_no_signs(self):
        for signs in product((1, -1), repeat=4):
            if not change_at_most_once(4, signs):
                self.assertRaises(NoSigns, sheet_by_signs, 4, signs)
        for many in (1, 2, 3, 4):
            for signs in THINGS + [(1, 1), (True,), (1, 1, 1, True), (1, 1, 1, 0), [1], [1, 1, 1, 1], (1,) * 5, (2,)]:
                if many > 2 or signs != ():
                    self.assertRaises(NoSigns, sheet_by_signs, many, signs)
        for many in (1, 2):
            self.assertRaises(NoSigns, sheet_by_signs, many, [])


class WhatFollowsTest(unittest.TestCase):
    """[74]."""

    def test_turned_over(self):
        for sheet in ASKED + LARGE:
            self.assertEqual(signs_of(turned_over(sheet)), tuple(-sign for sign in signs_of(sheet)))
            self.assertEqual(signs_of(sheared(sheet, -BIG)), signs_of(sheet))

    def test_four_places_are_a_ring(self):
        for sheet in [sheet for sheet in ASKED + LARGE[:2] if len(sheet) > 3]:
            turns = dict(zip(plain_threes(len(sheet)), signs_of(sheet)))
            fours = list(combinations(range(len(sheet)), 4))
            for four in fours[::1 + len(fours) // 200]:
                row = [turns[three] for three in combinations(four, 3)]
                asked = row[0] == row[1] and row[2] == row[3]
                self.assertIs(is_ring(four, sheet), asked)
                self.assertIs(is_ring_by_signs((0, 1, 2, 3), 4, tuple(row)), asked)

    def test_four_places_alone(self):
        for signs in all_signs(4):
            asked = signs[0] == signs[1] and signs[2] == signs[3]
            self.assertIs(is_ring_by_signs((0, 1, 2, 3), 4, signs), asked)
            self.assertIs(is_ring((0, 1, 2, 3), sheet_by_signs(4, signs)), asked)


if __name__ == "__main__":
    unittest.main()
