import unittest
from itertools import combinations, product

from bentrows.rows import (cap_table, cup_table, is_cap, is_cap_paper, is_cup, is_cup_paper, longest_cap,
                           longest_cup)
from bentrows.sheets import sheared, turned_over
from samples import BIG, DOWN_PARABOLA, LARGE, SHEETS, SMALL, THINGS, UP_PARABOLA, all_rows, above

FIVE = ((0, 0), (1, 5), (3, -2), (4, 4), (7, 0))
CUPS = {"is": is_cup, "table": cup_table, "longest": longest_cup, "paper": is_cup_paper, "up": True}
CAPS = {"is": is_cap, "table": cap_table, "longest": longest_cap, "paper": is_cap_paper, "up": False}


class RowTest(unittest.TestCase):
    """[21]: which things are cups and caps."""

    def test_each_rising_tuple_of_places(self):
        for ask in (CUPS, CAPS):
            for sheet in SHEETS:
                rows = all_rows(sheet, ask["up"])
                for many in range(len(sheet) + 1):
                    for row in combinations(range(len(sheet)), many):
                        self.assertIs(ask["is"](row, sheet), row in rows, (row, sheet))

    def test_two_places_are_both(self):
        for i in range(-1, 6):
            for j in range(-1, 6):
                for ask in (CUPS, CAPS):
                    self.assertIs(ask["is"]((i, j), FIVE), 0 <= i < j < 5)

    def test_one_place_is_neither(self):
        for ask in (CUPS, CAPS):
            self.assertIs(ask["is"]((0,), FIVE), False)
            self.assertIs(ask["is"]((), FIVE), False)
            self.assertIs(ask["is"]((0,), ((5, 5),)), False)

    def test_bends_all_along(self):
        whole = tuple(range(24))
        self.assertIs(is_cup(whole, UP_PARABOLA), True)
        self.assertIs(is_cap(whole, UP_PARABOLA), False)
        self.assertIs(is_cap(whole, DOWN_PARABOLA), True)
        self.assertIs(is_cup(whole, DOWN_PARABOLA), False)
        bent_back = UP_PARABOLA[:23] + ((11, -100001),)
        self.assertIs(is_cup(whole, bent_back), False)
        self.assertIs(is_cap(whole, bent_back), False)
        self.assertIs(is_cup(whole[:23], bent_back), True)

    def test_things_of_whatever_kind(self):
        for ask in (CUPS, CAPS):
            for sheet in (FIVE, UP_PARABOLA, DOWN_PARABOLA, ((5, 5),)):
                for thing in THINGS + [(0, 24), (-1, 0), (0, BIG), (0, None), (0, (1,)), sheet]:
                    self.assertIs(ask["is"](thing, sheet), False, thing)

    def test_no_rows(self):
        for ask in (CUPS, CAPS):
            for sheet in (UP_PARABOLA, DOWN_PARABOLA):
                for thing in [[0, 1], [0, 1, 2], (0, True), (False, 1), (False, True), (0, 1, True), (0, 0), (0, 1, 1),
                              (0, 2, 1), (2, 1, 0), {0: 1, 1: 2}, "01", (0, "1"), (0, 1, 24), (-2, -1), (0, 1, None)]:
                    self.assertIs(ask["is"](thing, sheet), False, thing)


class TableTest(unittest.TestCase):
    """[22]: the tables."""

    def test_as_all_rows_say(self):
        for ask in (CUPS, CAPS):
            for sheet in SHEETS:
                asked = {}
                for row in all_rows(sheet, ask["up"]):
                    asked[row[-2:]] = max(len(row), asked.get(row[-2:], 0))
                self.assertEqual(ask["table"](sheet), asked)

    def test_parabolas(self):
        pairs = list(combinations(range(24), 2))
        self.assertEqual(cup_table(UP_PARABOLA), {(i, j): i + 2 for i, j in pairs})
        self.assertEqual(cap_table(UP_PARABOLA), {pair: 2 for pair in pairs})
        self.assertEqual(cap_table(DOWN_PARABOLA), {(i, j): i + 2 for i, j in pairs})
        self.assertEqual(cup_table(DOWN_PARABOLA), {pair: 2 for pair in pairs})

    def test_one_and_two_points(self):
        for ask in (CUPS, CAPS):
            self.assertEqual(ask["table"](((5, 5),)), {})
            self.assertEqual(ask["table"](((5, 5), (6, 9))), {(0, 1): 2})


class LongestTest(unittest.TestCase):
    """[23]: the longest cup and cap."""

    def test_first_of_the_longest(self):
        for ask in (CUPS, CAPS):
            for sheet in SHEETS:
                rows = all_rows(sheet, ask["up"])
                asked = min(rows, key=lambda row: (-len(row), row)) if rows else None
                self.assertEqual(ask["longest"](sheet), asked)

    def test_none_of_one_point(self):
        self.assertIsNone(longest_cup(((5, 5),)))
        self.assertIsNone(longest_cap(((5, 5),)))

    def test_first_two_where_none_is_longer(self):
        self.assertEqual(longest_cup(((5, 5), (6, 6))), (0, 1))
        self.assertEqual(longest_cap(((5, 5), (6, 6))), (0, 1))
        self.assertEqual(longest_cap(UP_PARABOLA), (0, 1))
        self.assertEqual(longest_cup(DOWN_PARABOLA), (0, 1))

    def test_of_24_points(self):
        for ask in (CUPS, CAPS):
            for sheet in LARGE:
                longest = ask["longest"](sheet)
                self.assertIs(ask["is"](longest, sheet), True)
                self.assertEqual(len(longest), max(ask["table"](sheet).values()))
        self.assertEqual(longest_cup(UP_PARABOLA), tuple(range(24)))
        self.assertEqual(longest_cap(DOWN_PARABOLA), tuple(range(24)))


class PaperTest(unittest.TestCase):
    """[24]: papers."""

    def test_tables_are_papers(self):
        for ask in (CUPS, CAPS):
            for sheet in SHEETS + LARGE:
                self.assertIs(ask["paper"](ask["table"](sheet), sheet), True)

    def test_no_number_of_a_table_can_be_lesser(self):
        for ask in (CUPS, CAPS):
            for sheet in SHEETS:
                table = ask["table"](sheet)
                for pair in table:
                    lesser = dict(table)
                    lesser[pair] -= 1
                    self.assertIs(ask["paper"](lesser, sheet), False)

    def test_all_papers_of_four_points(self):
        pairs = list(combinations(range(4), 2))
        for ask in (CUPS, CAPS):
            for sheet in [sheet for sheet in SMALL if len(sheet) == 4]:
                threes = [three for three in combinations(range(4), 3) if above(sheet, *three) == ask["up"]]
                table = ask["table"](sheet)
                for numbers in product((1, 2, 3, 4), repeat=6):
                    paper = dict(zip(pairs, numbers))
                    asked = min(numbers) > 1 and all(paper[(j, k)] > paper[(i, j)] for i, j, k in threes)
                    self.assertIs(ask["paper"](paper, sheet), asked)
                    if asked:
                        self.assertTrue(all(paper[pair] >= table[pair] for pair in pairs))

    def test_greater_numbers(self):
        pairs = list(combinations(range(24), 2))
        rising = {(i, j): BIG + i for i, j in pairs}
        level = {pair: BIG for pair in pairs}
        self.assertIs(is_cup_paper(rising, UP_PARABOLA), True)
        self.assertIs(is_cup_paper(level, UP_PARABOLA), False)
        self.assertIs(is_cap_paper(level, UP_PARABOLA), True)
        self.assertIs(is_cap_paper(rising, DOWN_PARABOLA), True)
        self.assertIs(is_cap_paper(level, DOWN_PARABOLA), False)
        self.assertIs(is_cup_paper(level, DOWN_PARABOLA), True)

    def test_for_each_two_places_and_nothing_else(self):
        for ask in (CUPS, CAPS):
            table = ask["table"](FIVE)
            for pair in table:
                less = dict(table)
                number = less.pop(pair)
                self.assertIs(ask["paper"](less, FIVE), False)
                for key in [(pair[1], pair[0]), (pair[0], 5), (-1, pair[1]), pair + (5,), pair[:1], (), 0, None, "0,1"]:
                    instead = dict(less)
                    instead[key] = number
                    self.assertIs(ask["paper"](instead, FIVE), False)
            for key in [(0, 0), (1, 0), (0, 5), (-1, 0), (0, 1, 2), (0,), (), 0, None, True, "a", (0, "1"), (None, 1)]:
                more = dict(table)
                more[key] = 9
                self.assertIs(ask["paper"](more, FIVE), False)

    def test_truths_are_no_places_and_no_numbers(self):
        two = ((0, 0), (1, 5))
        for ask in (CUPS, CAPS):
            self.assertIs(ask["paper"]({(0, 1): 2}, two), True)
            for key in [(False, 1), (0, True), (False, True)]:
                self.assertIs(ask["paper"]({key: 2}, two), False)
            for number in [True, False, 1, 0, -2, None, "2", [2], (2,), {2: 2}]:
                self.assertIs(ask["paper"]({(0, 1): number}, two), False)

    def test_one_point(self):
        for ask in (CUPS, CAPS):
            self.assertIs(ask["paper"]({}, ((5, 5),)), True)
            self.assertIs(ask["paper"]({(0, 1): 2}, ((5, 5),)), False)
            self.assertIs(ask["paper"]({}, ((5, 5), (6, 6))), False)

    def test_things_of_whatever_kind(self):
        for ask in (CUPS, CAPS):
            for thing in THINGS + [[((0, 1), 2)], (((0, 1), 2),), FIVE]:
                self.assertIs(ask["paper"](thing, FIVE), False)
                if thing != {}:
                    self.assertIs(ask["paper"](thing, ((5, 5),)), False)

    def test_no_row_is_longer_than_a_paper_says(self):
        for ask in (CUPS, CAPS):
            for sheet in SHEETS:
                if len(sheet) > 1:
                    most = max(len(row) for row in all_rows(sheet, ask["up"]))
                    self.assertEqual(max(ask["table"](sheet).values()), most)


class TurnsAloneTest(unittest.TestCase):
    """[6]: what is told of turns alone is the same for each sheet that has them."""

    def test_sheared_sheets(self):
        for sheet in SHEETS + LARGE:
            for ask in (CUPS, CAPS):
                for moved in (sheared(sheet, 7), sheared(sheet, -BIG)):
                    self.assertEqual(ask["table"](moved), ask["table"](sheet))
                    self.assertEqual(ask["longest"](moved), ask["longest"](sheet))
                    self.assertIs(ask["paper"](ask["table"](sheet), moved), True)

    def test_turned_over_cups_are_caps(self):
        for sheet in SHEETS + LARGE:
            over = turned_over(sheet)
            self.assertEqual(cup_table(over), cap_table(sheet))
            self.assertEqual(longest_cup(over), longest_cap(sheet))


if __name__ == "__main__":
    unittest.main()
