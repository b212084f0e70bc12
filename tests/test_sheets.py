import unittest
from itertools import combinations, permutations

from bentrows.errors import Bare, NoNumber, NoPlace, NoSheet, OnLine
from bentrows.sheets import all_turns, from_behind, is_sheet, sheared, sheet_of, turn, turned_over, without
from samples import BIG, LARGE, NO_SHEETS, SHEETS, THINGS, UP_PARABOLA, above, on_line

NO_NUMBERS = [thing for thing in THINGS if isinstance(thing, bool) or not isinstance(thing, int)]
NO_PLACES_OF_THREE = NO_NUMBERS + [-1, 3, 24, BIG, -BIG, -3]
THREE = ((0, 0), (1, 5), (3, -2))


class IsSheetTest(unittest.TestCase):
    """[2], [3], [11]: what is a sheet."""

    def test_sheets(self):
        for sheet in SHEETS + LARGE:
            self.assertIs(is_sheet(sheet), True, sheet)

    def test_other_things(self):
        for thing in NO_SHEETS:
            self.assertIs(is_sheet(thing), False, thing)

    def test_from_1_to_24_points(self):
        longer = tuple((x, x * x) for x in range(30))
        for many in range(31):
            self.assertIs(is_sheet(longer[:many]), 1 <= many <= 24, many)

    def test_truths_are_no_numbers(self):
        self.assertIs(is_sheet(((0, 0), (1, 1))), True)
        for points in [((0, 0), (True, 1)), ((0, 0), (1, True)), ((False, 0), (1, 1)), ((0, False), (1, 1))]:
            self.assertIs(is_sheet(points), False, points)

    def test_lists_are_no_tuples(self):
        self.assertIs(is_sheet([(0, 0), (1, 1)]), False)
        self.assertIs(is_sheet(((0, 0), [1, 1])), False)

    def test_points_rise(self):
        for points in permutations(THREE):
            self.assertIs(is_sheet(points), points == THREE, points)

    def test_two_with_one_x(self):
        self.assertIs(is_sheet(((0, 0), (1, 1), (1, 5))), False)

    def test_three_on_one_line_at_any_places(self):
        on = ((0, 0), (10, 10), (20, 20))
        for others in combinations([(-5, 3), (4, 90), (13, -55), (30, 7)], 2):
            points = tuple(sorted(on + others))
            self.assertIs(is_sheet(points), False, points)
            self.assertIs(is_sheet(tuple(p for p in points if p != on[1])), True, points)

    def test_thirty_figures(self):
        for sign in (1, -1):
            self.assertIs(is_sheet(((-BIG, sign * BIG), (0, 0), (BIG, -sign * BIG))), False)
            self.assertIs(is_sheet(((-BIG, sign * BIG), (0, 0), (BIG, -sign * BIG + 1))), True)
            self.assertIs(is_sheet(((-BIG, sign * BIG), (0, 1), (BIG, -sign * BIG))), True)


class SheetOfTest(unittest.TestCase):
    """[11]: sheets made of lists."""

    def test_whatever_order(self):
        for points in permutations([(0, 0), (1, 5), (3, -2), (-BIG, BIG)]):
            self.assertEqual(sheet_of(list(points)), ((-BIG, BIG),) + THREE)

    def test_made_of_all_points(self):
        for sheet in SHEETS + LARGE:
            made = sheet_of(list(reversed(sheet)))
            self.assertEqual(made, sheet)
            self.assertIs(is_sheet(made), True)

    def test_refused(self):
        no_lists = [thing for thing in NO_SHEETS if not isinstance(thing, list)] + SHEETS
        for thing in no_lists + [thing for thing in THINGS if isinstance(thing, list)]:
            with self.assertRaises(NoSheet, msg=repr(thing)):
                sheet_of(thing)

    def test_refused_points(self):
        for point in THINGS + [(True, 5), (5, True), (5,), (5, 5, 5), [5, 7], (0, 9), (5, None), ("5", 7)]:
            if point in [(1, 0)]:
                continue
            with self.assertRaises(NoSheet, msg=repr(point)):
                sheet_of([(0, 0), (3, 1), point])

    def test_from_1_to_24_points(self):
        points = [(x, x * x) for x in range(26)]
        self.assertEqual(sheet_of(points[:1]), ((0, 0),))
        self.assertEqual(len(sheet_of(points[:24])), 24)
        for many in (0, 25, 26):
            with self.assertRaises(NoSheet):
                sheet_of(points[:many])

    def test_no_sheet_goes_ahead_of_on_line(self):
        line = [(0, 0), (1, 1), (2, 2)]
        with self.assertRaises(NoSheet):
            sheet_of(line + [(2, 7)])
        with self.assertRaises(NoSheet):
            sheet_of(line + [(2, 2)])
        with self.assertRaises(NoSheet):
            sheet_of(line + [(5, True)])
        with self.assertRaises(NoSheet):
            sheet_of([(x, x) for x in range(25)])

    def test_three_is_the_first_on_a_line(self):
        grid = [(0, 0), (1, 3), (2, 1), (3, 9), (4, 2), (5, 7), (6, 5), (7, 9), (8, 11), (9, 9)]
        for many in (4, 5, 6, 7):
            for points in combinations(grid, many):
                on = [three for three in combinations(points, 3) if on_line(*three)]
                if not on:
                    self.assertEqual(sheet_of(list(points)), points)
                    continue
                with self.assertRaises(OnLine) as caught:
                    sheet_of(list(reversed(points)))
                self.assertEqual(caught.exception.three, min(on))

    def test_three_is_made_of_tuples(self):
        with self.assertRaises(OnLine) as caught:
            sheet_of([(2, 2), (9, -1), (1, 1), (-3, -3), (0, 5)])
        self.assertEqual(caught.exception.three, ((-3, -3), (1, 1), (2, 2)))

    def test_all_on_one_line_of_thirty_figures(self):
        with self.assertRaises(OnLine) as caught:
            sheet_of([(BIG, BIG), (0, 0), (-BIG, -BIG), (5, 5)])
        self.assertEqual(caught.exception.three, ((-BIG, -BIG), (0, 0), (5, 5)))


class TurnTest(unittest.TestCase):
    """[12]: turns of three places."""

    def test_up_and_down(self):
        self.assertEqual(turn(((0, 0), (1, 0), (2, 1)), 0, 1, 2), 1)
        self.assertEqual(turn(((0, 0), (1, 0), (2, -1)), 0, 1, 2), -1)
        self.assertEqual(turn(((-BIG, -BIG), (0, 0), (BIG, BIG + 1)), 0, 1, 2), 1)
        self.assertEqual(turn(((-BIG, -BIG), (0, 0), (BIG, BIG - 1)), 0, 1, 2), -1)

    def test_each_three_places(self):
        for sheet in SHEETS:
            for three in combinations(range(len(sheet)), 3):
                self.assertEqual(turn(sheet, *three), 1 if above(sheet, *three) else -1)

    def test_all_turns(self):
        for sheet in SHEETS + LARGE:
            asked = {}
            for three in combinations(range(len(sheet)), 3):
                asked[three] = 1 if above(sheet, *three) else -1
            self.assertEqual(all_turns(sheet), asked)

    def test_all_turns_of_two_points(self):
        self.assertEqual(all_turns(((0, 0),)), {})
        self.assertEqual(all_turns(((0, 0), (1, 5))), {})

    def test_turns_are_whole_numbers(self):
        for told in list(all_turns(UP_PARABOLA).values()) + [turn(THREE, 0, 1, 2)]:
            self.assertIs(type(told), int)

    def test_no_places(self):
        for thing in NO_PLACES_OF_THREE:
            for i, j, k in [(thing, 1, 2), (0, thing, 2), (0, 1, thing), (thing, thing, thing)]:
                with self.assertRaises(NoPlace, msg=repr((i, j, k))):
                    turn(THREE, i, j, k)

    def test_truths_are_no_places(self):
        for i, j, k in [(False, 1, 2), (0, True, 2), (False, True, 2)]:
            with self.assertRaises(NoPlace):
                turn(THREE, i, j, k)

    def test_places_must_rise(self):
        for i in range(-1, 4):
            for j in range(-1, 4):
                for k in range(-1, 4):
                    if (i, j, k) == (0, 1, 2):
                        continue
                    with self.assertRaises(NoPlace):
                        turn(THREE, i, j, k)

    def test_no_places_of_two_points(self):
        with self.assertRaises(NoPlace):
            turn(THREE[:2], 0, 1, 2)


class MovedTest(unittest.TestCase):
    """[13]: sheets turned over, seen from behind, sheared, without a place."""

    def test_turned_over(self):
        self.assertEqual(turned_over(THREE), ((0, 0), (1, -5), (3, 2)))
        for sheet in SHEETS + LARGE:
            over = turned_over(sheet)
            self.assertIs(is_sheet(over), True)
            self.assertEqual(over, tuple((x, -y) for x, y in sheet))
            turns = all_turns(sheet)
            self.assertEqual(all_turns(over), {three: -turns[three] for three in turns})

    def test_from_behind(self):
        self.assertEqual(from_behind(THREE), ((-3, -2), (-1, 5), (0, 0)))
        for sheet in SHEETS + LARGE:
            behind = from_behind(sheet)
            self.assertIs(is_sheet(behind), True)
            self.assertEqual(behind, tuple(sorted((-x, y) for x, y in sheet)))
            turns = all_turns(behind)
            last = len(sheet) - 1
            self.assertEqual(all_turns(sheet), {(i, j, k): turns[(last - k, last - j, last - i)]
                                                for i, j, k in combinations(range(len(sheet)), 3)})

    def test_sheared(self):
        self.assertEqual(sheared(THREE, 2), ((0, 0), (1, 7), (3, 4)))
        self.assertEqual(sheared(THREE, -1), ((0, 0), (1, 4), (3, -5)))
        for sheet in SHEETS + LARGE:
            for by in (0, 1, -1, 7, BIG, -BIG):
                moved = sheared(sheet, by)
                self.assertIs(is_sheet(moved), True)
                self.assertEqual(moved, tuple((x, y + by * x) for x, y in sheet))
                self.assertEqual(all_turns(moved), all_turns(sheet))

    def test_sheared_by_no_number(self):
        for thing in NO_NUMBERS + [True, False]:
            with self.assertRaises(NoNumber, msg=repr(thing)):
                sheared(THREE, thing)

    def test_without(self):
        self.assertEqual([without(THREE, place) for place in range(3)], [THREE[1:], (THREE[0], THREE[2]), THREE[:2]])
        self.assertEqual(without(THREE[:2], 0), (THREE[1],))
        for sheet in SHEETS + LARGE:
            for place in range(len(sheet) if len(sheet) > 1 else 0):
                left = without(sheet, place)
                self.assertIs(is_sheet(left), True)
                self.assertEqual(left, tuple(p for p in sheet if p != sheet[place]))

    def test_without_no_place(self):
        for thing in NO_PLACES_OF_THREE:
            with self.assertRaises(NoPlace, msg=repr(thing)):
                without(THREE, thing)

    def test_without_the_only_place(self):
        with self.assertRaises(Bare):
            without(((5, 5),), 0)

    def test_no_place_goes_ahead_of_bare(self):
        for thing in NO_NUMBERS + [-1, 1, BIG, False]:
            with self.assertRaises(NoPlace, msg=repr(thing)):
                without(((5, 5),), thing)


if __name__ == "__main__":
    unittest.main()
