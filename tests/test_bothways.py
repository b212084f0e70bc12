import unittest
from itertools import combinations, product
from math import comb

from bentrows.bothways import cap_starts, cup_ends, cup_or_cap, is_bar, joined, room
from bentrows.errors import Apart, NoNumber, NoRow, NoSheet
from bentrows.rows import cap_table, cup_table, is_cap, is_cup, longest_cap, longest_cup
from bentrows.sheets import sheared, turned_over
from samples import (BIG, DOWN_PARABOLA, LARGE, NO_NUMBERS, NO_SHEETS, SHEETS, SMALL, THINGS, UP_PARABOLA, above,
                     all_rows)

ONE = ((5, 5),)
# A cup of three and a cap of three; neither of four.
FOUR = ((0, 0), (1, -5), (2, 4), (3, 0))
NUMBERS = range(2, 10)
BEYOND = NO_NUMBERS + [10, 11, 24, 1000]


def longest(sheet, up):
    return max([len(row) for row in all_rows(sheet, up)], default=1)


class RoomTest(unittest.TestCase):
    """[31]: the room of two numbers."""

    def test_all_two_numbers(self):
        for k, l in product(NUMBERS, NUMBERS):
            self.assertEqual(room(k, l), comb(k + l - 4, k - 2), (k, l))
            self.assertEqual(room(k, l), room(l, k))

    def test_as_told(self):
        for k in NUMBERS:
            self.assertEqual(room(2, k), 1)
            self.assertEqual(room(k, 2), 1)
        for k, l in product(range(3, 10), range(3, 10)):
            self.assertEqual(room(k, l), room(k - 1, l) + room(k, l - 1))
        self.assertEqual(room(3, 3), 2)
        self.assertEqual(room(5, 5), 20)
        self.assertEqual(room(9, 9), 3432)

    def test_no_number(self):
        for wrong in BEYOND:
            for number in (2, 3, 9):
                self.assertRaises(NoNumber, room, wrong, number)
                self.assertRaises(NoNumber, room, number, wrong)
            self.assertRaises(NoNumber, room, wrong, wrong)

    def test_more_points_than_the_room(self):
        for sheet in SHEETS + LARGE:
            for k, l in product(NUMBERS, NUMBERS):
                if len(sheet) > room(k, l):
                    self.assertNotEqual(cup_or_cap(sheet, k, l)[0], "none")


class CupOrCapTest(unittest.TestCase):
    """[32]: a cup, or a cap, or a bar."""

    def check_told(self, sheet, k, l, cup, cap):
        told = cup_or_cap(sheet, k, l)
        self.assertIsInstance(told, tuple)
        name, found = told
        if name == "cup":
            self.assertIs(is_cup(found, sheet), True)
            self.assertEqual(len(found), k)
        elif name == "cap":
            self.assertIs(is_cap(found, sheet), True)
            self.assertEqual(len(found), l)
        else:
            self.assertEqual(name, "none")
            self.assertIsInstance(found, tuple)
            self.assertIs(is_bar(found, sheet, k, l), True)
        self.assertEqual(name == "none", cup < k and cap < l)

    def test_on_all_sheets(self):
        for sheet in SHEETS:
            cup = longest(sheet, True)
            cap = longest(sheet, False)
            for k, l in product(NUMBERS, NUMBERS):
                self.check_told(sheet, k, l, cup, cap)

    def test_on_24_points(self):
        for sheet in LARGE:
            for k, l in product(NUMBERS, NUMBERS):
                self.check_told(sheet, k, l, len(longest_cup(sheet)), len(longest_cap(sheet)))

    def test_the_one_the_other_both_and_none(self):
        self.assertEqual(cup_or_cap(UP_PARABOLA, 9, 3)[0], "cup")
        self.assertEqual(cup_or_cap(DOWN_PARABOLA, 3, 9)[0], "cap")
        self.assertIn(cup_or_cap(FOUR, 3, 3)[0], ("cup", "cap"))
        self.assertEqual(cup_or_cap(FOUR, 4, 4)[0], "none")
        self.assertEqual(cup_or_cap(FOUR, 4, 3)[0], "cap")
        self.assertEqual(cup_or_cap(FOUR, 3, 4)[0], "cup")

    def test_one_point_has_neither(self):
        for k, l in product(NUMBERS, NUMBERS):
            self.assertEqual(cup_or_cap(ONE, k, l), ("none", ({}, {})))

    def test_two_places_are_there_where_two_points_are(self):
        two = ((0, 0), (1, 7))
        for k in NUMBERS:
            self.assertNotEqual(cup_or_cap(two, 2, k)[0], "none")
            self.assertNotEqual(cup_or_cap(two, k, 2)[0], "none")
        self.assertEqual(cup_or_cap(two, 3, 3), ("none", ({(0, 1): 2}, {(0, 1): 2})))

    def test_no_number_behind_no_sheet(self):
        for wrong in BEYOND:
            for k, l in ((wrong, 3), (3, wrong), (wrong, wrong)):
                self.assertRaises(NoNumber, cup_or_cap, FOUR, k, l)
                self.assertRaises(NoNumber, is_bar, None, FOUR, k, l)
                self.assertRaises(NoNumber, is_bar, ({}, {}), ONE, k, l)
        for thing in NO_SHEETS:
            for k in (3, None, 1):
                self.assertRaises(NoSheet, cup_or_cap, thing, k, k)
                self.assertRaises(NoSheet, is_bar, ({}, {}), thing, k, k)


class BarTest(unittest.TestCase):
    """[32]: what is a bar."""

    def test_tables_are_a_bar_where_there_is_neither(self):
        for sheet in SHEETS:
            tables = (cup_table(sheet), cap_table(sheet))
            cup = longest(sheet, True)
            cap = longest(sheet, False)
            for k, l in product(NUMBERS, NUMBERS):
                self.assertIs(is_bar(tables, sheet, k, l), cup < k and cap < l)

    def test_numbers_below_both(self):
        for pair in combinations(range(4), 2):
            for number in range(2, 8):
                cups = cup_table(FOUR)
                caps = cap_table(FOUR)
                # Greater numbers of the last place can't be too small for what comes behind.
                if pair[1] == 3:
                    if number >= cups[pair]:
                        cups[pair] = number
                        self.assertIs(is_bar((cups, caps), FOUR, 6, 9), number < 6)
                        self.assertIs(is_bar((cups, caps), FOUR, 7, 4), number < 7)
                    cups = cup_table(FOUR)
                    if number >= caps[pair]:
                        caps[pair] = number
                        self.assertIs(is_bar((cups, caps), FOUR, 9, 6), number < 6)
                        self.assertIs(is_bar((cups, caps), FOUR, 4, 7), number < 7)

    def test_cups_first(self):
        sheet = UP_PARABOLA[:4]
        self.assertIs(is_bar((cup_table(sheet), cap_table(sheet)), sheet, 5, 3), True)
        self.assertIs(is_bar((cap_table(sheet), cup_table(sheet)), sheet, 5, 5), False)
        self.assertIs(is_bar((cup_table(sheet), cup_table(sheet)), sheet, 5, 5), True)
        self.assertIs(is_bar((cup_table(sheet), cup_table(sheet)), sheet, 5, 4), False)

    def test_both_papers_are_looked_at(self):
        for sheet in [sheet for sheet in SHEETS if 2 < len(sheet) < 7]:
            cups = cup_table(sheet)
            caps = cap_table(sheet)
            self.assertIs(is_bar((cups, caps), sheet, 9, 9), True)
            for wrong in THINGS + [{}]:
                self.assertIs(is_bar((cups, wrong), sheet, 9, 9), False)
                self.assertIs(is_bar((wrong, caps), sheet, 9, 9), False)
            for pair in cups:
                lesser = dict(cups)
                lesser[pair] -= 1
                self.assertIs(is_bar((lesser, caps), sheet, 9, 9), False)
                lesser = dict(caps)
                lesser[pair] -= 1
                self.assertIs(is_bar((cups, lesser), sheet, 9, 9), False)

    def test_things_of_whatever_kind(self):
        cups = cup_table(FOUR)
        caps = cap_table(FOUR)
        for thing in THINGS + [[cups, caps], (cups,), (cups, caps, caps), (cups, caps, None), {0: cups, 1: caps}, cups,
                               ((cups, caps),), ("none", (cups, caps)), FOUR]:
            self.assertIs(is_bar(thing, FOUR, 9, 9), False, thing)
        for thing in THINGS + [[{}, {}], ({},), ({}, {}, {}), ({}, ()), ([], {}), (None, {})]:
            self.assertIs(is_bar(thing, ONE, 2, 2), False, thing)
        self.assertIs(is_bar(({}, {}), ONE, 2, 2), True)


class JoinedTest(unittest.TestCase):
    """[33]: a cup and a cap that meet."""

    def test_all_cups_and_caps(self):
        for sheet in [sheet for sheet in SMALL if len(sheet) < 7]:
            for cup, cap in product(all_rows(sheet, True), all_rows(sheet, False)):
                if cup[-1] != cap[0]:
                    self.assertRaises(Apart, joined, sheet, cup, cap)
                elif above(sheet, cup[-2], cup[-1], cap[1]):
                    self.assertEqual(joined(sheet, cup, cap), ("cup", cup + cap[1:2]))
                else:
                    self.assertEqual(joined(sheet, cup, cap), ("cap", cup[-2:-1] + cap))

    def test_told_rows_are_rows(self):
        for sheet in SHEETS:
            for cup, cap in product(all_rows(sheet, True)[:60], all_rows(sheet, False)[:60]):
                if cup[-1] == cap[0]:
                    name, row = joined(sheet, cup, cap)
                    self.assertIs((is_cup if name == "cup" else is_cap)(row, sheet), True)
                    self.assertEqual(len(row), len(cup if name == "cup" else cap) + 1)

    def test_up_and_down(self):
        self.assertEqual(joined(UP_PARABOLA, (0, 2, 5), (5, 9)), ("cup", (0, 2, 5, 9)))
        self.assertEqual(joined(DOWN_PARABOLA, (1, 5), (5, 9, 23)), ("cap", (1, 5, 9, 23)))

    def test_apart(self):
        for cup, cap in [((0, 1), (2, 3)), ((0, 2), (1, 3)), ((2, 3), (0, 1)), ((0, 1), (0, 1)), ((1, 3), (0, 1))]:
            self.assertRaises(Apart, joined, UP_PARABOLA, cup, cap)

    def test_no_row_ahead_of_apart(self):
        for wrong in THINGS + [[0, 1], (0, True), (1, 0), (0,), (0, 24), (0, 1, 1)]:
            self.assertRaises(NoRow, joined, UP_PARABOLA, wrong, (1, 2))
            self.assertRaises(NoRow, joined, UP_PARABOLA, (0, 1), wrong)
            self.assertRaises(NoRow, joined, UP_PARABOLA, wrong, wrong)
            self.assertRaises(NoRow, joined, ONE, wrong, wrong)
        # Cups are no caps, caps no cups.
        self.assertRaises(NoRow, joined, UP_PARABOLA, (0, 1), (1, 2, 3))
        self.assertRaises(NoRow, joined, UP_PARABOLA, (0, 1), (2, 3, 4))
        self.assertRaises(NoRow, joined, DOWN_PARABOLA, (0, 1, 2), (2, 3))
        self.assertRaises(NoRow, joined, DOWN_PARABOLA, (0, 1, 2), (3, 4))

    def test_no_sheet_ahead_of_all(self):
        for thing in NO_SHEETS:
            for cup, cap in (((0, 1), (1, 2)), (None, None), ((0, 1), (0, 1))):
                self.assertRaises(NoSheet, joined, thing, cup, cap)


class EndsAndStartsTest(unittest.TestCase):
    """[34]: where cups end and caps begin."""

    def test_as_all_rows_say(self):
        for sheet in SHEETS:
            cups = all_rows(sheet, True)
            caps = all_rows(sheet, False)
            for many in range(2, 25):
                ends = sorted({row[-1] for row in cups if len(row) == many})
                starts = sorted({row[0] for row in caps if len(row) == many})
                self.assertEqual(cup_ends(sheet, many), ends)
                self.assertEqual(cap_starts(sheet, many), starts)

    def test_on_24_points(self):
        for many in range(2, 25):
            self.assertEqual(cup_ends(UP_PARABOLA, many), list(range(many - 1, 24)))
            self.assertEqual(cap_starts(DOWN_PARABOLA, many), list(range(25 - many)))
            self.assertEqual(cap_starts(UP_PARABOLA, many), list(range(23)) if many == 2 else [])
            self.assertEqual(cup_ends(DOWN_PARABOLA, many), list(range(1, 24)) if many == 2 else [])

    def test_one_point(self):
        for many in range(2, 25):
            self.assertEqual(cup_ends(ONE, many), [])
            self.assertEqual(cap_starts(ONE, many), [])

    def test_no_number_behind_no_sheet(self):
        for wrong in NO_NUMBERS + [25, 26, 100]:
            for sheet in (ONE, FOUR, UP_PARABOLA):
                self.assertRaises(NoNumber, cup_ends, sheet, wrong)
                self.assertRaises(NoNumber, cap_starts, sheet, wrong)
            for thing in (None, (), [], 3):
                self.assertRaises(NoSheet, cup_ends, thing, wrong)
                self.assertRaises(NoSheet, cap_starts, thing, wrong)

    def test_ends_that_are_starts(self):
        for sheet in SHEETS + LARGE:
            ends = {many: cup_ends(sheet, many) for many in range(2, 9)}
            starts = {many: cap_starts(sheet, many) for many in range(2, 9)}
            for k, l in product(range(3, 10), range(3, 10)):
                if any(place in starts[l - 1] for place in ends[k - 1]):
                    self.assertNotEqual(cup_or_cap(sheet, k, l)[0], "none")


class TurnsAloneTest(unittest.TestCase):
    """[6]: the same for each sheet that has the same turns."""

    def test_sheared(self):
        for sheet in SHEETS + LARGE:
            for moved in (sheared(sheet, 5), sheared(sheet, -BIG)):
                for number in (2, 3, 4, 7):
                    self.assertEqual(cup_or_cap(moved, number, 4), cup_or_cap(sheet, number, 4))
                    self.assertEqual(cup_ends(moved, number), cup_ends(sheet, number))
                    self.assertEqual(cap_starts(moved, number), cap_starts(sheet, number))
                    tables = (cup_table(sheet), cap_table(sheet))
                    self.assertEqual(is_bar(tables, moved, number, 4), is_bar(tables, sheet, number, 4))

    def test_turned_over(self):
        for sheet in SHEETS + LARGE:
            over = turned_over(sheet)
            for k, l in ((3, 4), (4, 4), (7, 5), (9, 9)):
                self.assertEqual(cup_or_cap(over, l, k)[0] == "none", cup_or_cap(sheet, k, l)[0] == "none")


if __name__ == "__main__":
    unittest.main()
