import unittest
from itertools import combinations

from bentrows.drawings import drawing, set_beside
from bentrows.errors import Apart, NoNumber, NoPlace, NoSheet, OnLine
from bentrows.peels import layer, leeway, lifted, peels, turned_otherwise
from bentrows.rings import outer_ring
from bentrows.sheets import all_turns, is_sheet, sheared, turned_over
from samples import (BIG, CAP_THEN_CUP, DOWN_PARABOLA, LARGE, NESTED, NO_SHEETS, SHEETS, SMALL, THINGS, TWELVE,
                     UP_PARABOLA, above, lies_inside, made_sheet, on_line)

ONE = ((5, 5),)
TWO = ((5, 5), (6, 9))
SQUARE = ((0, 0), (1, 5), (3, -2), (7, 1))
DENTED = ((0, 0), (1, 9), (3, 2), (9, 1))
# Three corners round two others, round three, and round three more that are round one.
ROUND_TWO = ((-50, -40), (-1, 0), (2, 1), (3, 70), (60, -31))
ROUND_THREE = ((-50, -40), (-1, 0), (1, 6), (2, 1), (3, 70), (60, -31))
TWICE_ROUND_ONE = ((-500, -400), (-50, -40), (0, 1), (3, 70), (4, 900), (60, -31), (700, -310))
NO_WHOLES = [thing for thing in THINGS if isinstance(thing, bool) or not isinstance(thing, int)]
ASKED = SHEETS + TWELVE + LARGE + [NESTED, SQUARE, DENTED, CAP_THEN_CUP, ROUND_TWO, ROUND_THREE, TWICE_ROUND_ONE]


def plain_peels(sheet):
    left = list(range(len(sheet)))
    told = []
    while left:
        inner = [m for m in left if any(
            m not in three and lies_inside(sheet, three, m) for three in combinations(left, 3))]
        told.append(tuple(place for place in left if place not in inner))
        left = inner
    return told


def raised(sheet, place, by):
    return tuple((x, y + by) if at == place else (x, y) for at, (x, y) in enumerate(sheet))


def first_line(points):
    return min([three for three in combinations(points, 3) if on_line(*three)], default=None)


def turns_stay(sheet, place, by):
    """Whether the place lies on the same side of all lines as ahead, and on none."""
    points = raised(sheet, place, by)
    for i, j in combinations([at for at in range(len(sheet)) if at != place], 2):
        if on_line(points[i], points[j], points[place]) or above(points, i, j, place) != above(sheet, i, j, place):
            return False
    return True


def no_places(sheet):
    return NO_WHOLES + [-1, -2, -len(sheet), len(sheet), 24, BIG, -BIG]


class PeelsTest(unittest.TestCase):
    """[91]: peels and layers."""

    def test_those_inside_no_three_of_the_rest(self):
        for sheet in ASKED:
            told = peels(sheet)
            self.assertIsInstance(told, list)
            self.assertEqual(told, plain_peels(sheet))
            for peel in told:
                self.assertIsInstance(peel, tuple)

    def test_last_peel_of_one_two_and_three(self):
        self.assertEqual(peels(DENTED), [(0, 1, 3), (2,)])
        self.assertEqual(peels(ROUND_TWO), [(0, 3, 4), (1, 2)])
        self.assertEqual(peels(ROUND_THREE), [(0, 4, 5), (1, 2, 3)])
        self.assertEqual(peels(TWICE_ROUND_ONE), [(0, 4, 6), (1, 3, 5), (2,)])
        self.assertEqual(peels(SQUARE), [(0, 1, 2, 3)])
        self.assertEqual(peels(UP_PARABOLA), [tuple(range(24))])

    def test_one_and_two_points(self):
        self.assertEqual(peels(ONE), [(0,)])
        self.assertEqual(peels(TWO), [(0, 1)])
        self.assertEqual(layer(ONE, 0), 0)
        self.assertEqual([layer(TWO, place) for place in (0, 1)], [0, 0])

    def test_the_first_is_the_outer_ring(self):
        for sheet in ASKED:
            if len(sheet) > 2:
                self.assertEqual(peels(sheet)[0], outer_ring(sheet))

    def test_layers(self):
        for sheet in ASKED:
            told = plain_peels(sheet)
            for place in range(len(sheet)):
                number = layer(sheet, place)
                self.assertIs(type(number), int)
                self.assertIn(place, told[number])
        self.assertEqual([layer(TWICE_ROUND_ONE, place) for place in range(7)], [0, 1, 2, 1, 0, 1, 0])

    def test_no_place(self):
        for sheet in (ONE, TWO, SQUARE, ROUND_TWO, UP_PARABOLA):
            for thing in no_places(sheet):
                self.assertRaises(NoPlace, layer, sheet, thing)

    def test_no_sheet_ahead_of_no_place(self):
        for thing in NO_SHEETS:
            self.assertRaises(NoSheet, peels, thing)
            for place in (0, -1, None, True):
                self.assertRaises(NoSheet, layer, thing, place)


class LiftedTest(unittest.TestCase):
    """[92]: points lifted."""

    def test_up_down_and_by_nought(self):
        self.assertEqual(lifted(SQUARE, 1, 7), ((0, 0), (1, 12), (3, -2), (7, 1)))
        self.assertEqual(lifted(SQUARE, 2, -9), ((0, 0), (1, 5), (3, -11), (7, 1)))
        self.assertEqual(lifted(ONE, 0, -BIG), ((5, 5 - BIG),))
        for sheet in ASKED:
            self.assertEqual(lifted(sheet, len(sheet) - 1, 0), sheet)

    def test_a_sheet_or_on_line(self):
        found = []
        for sheet in SMALL:
            for place in range(len(sheet)):
                for by in (-13, -6, -3, -2, -1, 0, 1, 2, 3, 4, 5, 8, 40):
                    points = raised(sheet, place, by)
                    line = first_line(points)
                    found.append(line is None)
                    if line is None:
                        self.assertEqual(lifted(sheet, place, by), points)
                        self.assertIs(is_sheet(points), True)
                    else:
                        with self.assertRaises(OnLine) as caught:
                            lifted(sheet, place, by)
                        self.assertEqual(caught.exception.three, line)
        self.assertGreater(found.count(False), 50)

    def test_three_is_the_first_on_a_line(self):
        sheet = ((0, 0), (1, 1), (2, 5), (3, -1), (4, -6))
        with self.assertRaises(OnLine) as caught:
            lifted(sheet, 2, -3)
        self.assertEqual(caught.exception.three, ((0, 0), (1, 1), (2, 2)))
        # Now through (1, 1) and (3, -1), and no other two.
        with self.assertRaises(OnLine) as caught:
            lifted(sheet, 2, -5)
        self.assertEqual(caught.exception.three, ((1, 1), (2, 0), (3, -1)))

    def test_thirty_figures(self):
        sheet = ((-BIG, -BIG), (0, 1), (BIG, BIG))
        self.assertEqual(lifted(sheet, 1, BIG), ((-BIG, -BIG), (0, BIG + 1), (BIG, BIG)))
        with self.assertRaises(OnLine) as caught:
            lifted(sheet, 1, -1)
        self.assertEqual(caught.exception.three, ((-BIG, -BIG), (0, 0), (BIG, BIG)))

    def test_no_place_ahead_of_no_number(self):
        for sheet in (ONE, TWO, SQUARE):
            for thing in no_places(sheet):
                for by in (0, 1, None, True, "1"):
                    self.assertRaises(NoPlace, lifted, sheet, thing, by)

    def test_no_number(self):
        for sheet in (ONE, TWO, SQUARE, UP_PARABOLA):
            for thing in NO_WHOLES:
                for place in {0, len(sheet) - 1}:
                    self.assertRaises(NoNumber, lifted, sheet, place, thing)

    def test_no_sheet_ahead_of_all(self):
        for thing in NO_SHEETS:
            for place in (0, -1, None):
                for by in (0, None):
                    self.assertRaises(NoSheet, lifted, thing, place, by)


class LeewayTest(unittest.TestCase):
    """[93], [94]: how far a point can be lifted."""

    def far(self, sheet, place, way):
        """The last whole number, step by step, by which all turns stay; None where none of 800 steps is too far."""
        for steps in range(1, 800):
            if not turns_stay(sheet, place, way * steps):
                return way * (steps - 1)
        return None

    def test_step_by_step(self):
        found = []
        for sheet in [sheet for sheet in SMALL if len(sheet) < 6] + SMALL[-2:] + [SQUARE, DENTED]:
            for place in range(len(sheet)):
                found.append((self.far(sheet, place, -1), self.far(sheet, place, 1)))
                self.assertEqual(leeway(sheet, place), found[-1])
        for lacking in ((False, False), (True, False), (False, True), (True, True)):
            self.assertIn(lacking, [(low is None, high is None) for low, high in found])

    def test_both_bounds_one_and_none(self):
        self.assertEqual(leeway(ONE, 0), (None, None))
        self.assertEqual(leeway(TWO, 1), (None, None))
        self.assertEqual(leeway(((0, 0), (2, 4), (4, 2)), 1), (-2, None))
        self.assertEqual(leeway(((0, 0), (2, -1), (4, 2)), 1), (None, 1))
        # A line that passes between whole numbers, above the point and below it.
        self.assertEqual(leeway(((0, 0), (2, -1), (4, 3), (5, 90)), 1)[1], 2)
        self.assertEqual(leeway(((0, 0), (1, -1), (2, 1)), 1), (None, 1))
        self.assertEqual(leeway(((0, 0), (1, 2), (2, 1)), 1), (-1, None))
        self.assertEqual(leeway(DENTED, 2), (-1, 4))
        self.assertIsInstance(leeway(DENTED, 2), tuple)

    def test_no_leeway_one_way(self):
        close = ((0, 0), (10, 10), (20, 21), (30, 37))
        self.assertEqual(leeway(close, 2)[0], 0)
        self.assertEqual(leeway(turned_over(close), 2)[1], 0)

    def test_lifted_so_far_and_one_more(self):
        found = []
        for sheet in ASKED + [drawing(4, 4), drawing(5, 4), set_beside(SQUARE, DENTED)]:
            for place in range(len(sheet)) if len(sheet) < 20 else (0, 7, 12, 23):
                told = leeway(sheet, place)
                for bound, way in zip(told, (-1, 1)):
                    if bound is None:
                        self.assertEqual(turned_otherwise(sheet, lifted(sheet, place, way * 10 ** 70)), [])
                        continue
                    self.assertGreaterEqual(bound * way, 0)
                    for by in (bound, bound // 2):
                        self.assertEqual(turned_otherwise(sheet, lifted(sheet, place, by)), [])
                    found.append(self.turns_otherwise_or_on_line(sheet, place, bound + way))
        self.assertIn(True, found)
        self.assertIn(False, found)

    def turns_otherwise_or_on_line(self, sheet, place, by):
        try:
            other = lifted(sheet, place, by)
        except OnLine as refused:
            self.assertEqual(refused.three, first_line(raised(sheet, place, by)))
            return False
        self.assertGreater(len(turned_otherwise(sheet, other)), 0)
        return True

    def test_turned_over_the_bounds_are_exchanged(self):
        for sheet in ASKED:
            for place in range(0, len(sheet), 3):
                low, high = leeway(sheet, place)
                over = (None if high is None else -high, None if low is None else -low)
                self.assertEqual(leeway(turned_over(sheet), place), over)
                self.assertEqual(leeway(sheared(sheet, BIG), place), (low, high))

    def test_no_place(self):
        for sheet in (ONE, TWO, SQUARE, UP_PARABOLA):
            for thing in no_places(sheet):
                self.assertRaises(NoPlace, leeway, sheet, thing)

    def test_no_sheet_ahead_of_no_place(self):
        for thing in NO_SHEETS:
            for place in (0, -1, None, False):
                self.assertRaises(NoSheet, leeway, thing, place)


class TurnedOtherwiseTest(unittest.TestCase):
    """[93]: threes that turn otherwise."""

    def test_two_sheets_of_equally_many_points(self):
        for one in SHEETS + LARGE:
            for other in SHEETS + LARGE:
                if len(one) == len(other):
                    told = turned_otherwise(one, other)
                    self.assertIsInstance(told, list)
                    first, second = all_turns(one), all_turns(other)
                    self.assertEqual(told, sorted(three for three in first if first[three] != second[three]))
                    self.assertEqual(told == [], first == second)

    def test_all_turn_otherwise(self):
        for sheet in ASKED:
            threes = list(combinations(range(len(sheet)), 3))
            self.assertEqual(turned_otherwise(sheet, turned_over(sheet)), threes)
            self.assertEqual(turned_otherwise(sheet, sheared(sheet, 9)), [])
        self.assertEqual(turned_otherwise(UP_PARABOLA, DOWN_PARABOLA), list(combinations(range(24), 3)))

    def test_some_of_24_points(self):
        one, other = made_sheet(24, 90, 3), made_sheet(24, 90, 4)
        self.assertEqual(turned_otherwise(one, other), [three for three in combinations(range(24), 3)
                                                        if above(one, *three) != above(other, *three)])

    def test_few_threes(self):
        self.assertEqual(turned_otherwise(SQUARE, lifted(SQUARE, 3, -5)), [])
        self.assertEqual(turned_otherwise(SQUARE, lifted(SQUARE, 3, -6)), [(0, 2, 3)])
        self.assertEqual(turned_otherwise(SQUARE, lifted(SQUARE, 3, -30)), [(0, 2, 3), (1, 2, 3)])
        self.assertEqual(turned_otherwise(ONE, ((9, 9),)), [])
        self.assertEqual(turned_otherwise(TWO, ((9, 9), (10, -90))), [])

    def test_apart(self):
        for one in (ONE, TWO, SQUARE, UP_PARABOLA):
            for other in (ONE, TWO, SQUARE, UP_PARABOLA):
                if one != other:
                    self.assertRaises(Apart, turned_otherwise, one, other)

    def test_no_sheet_ahead_of_apart(self):
        for thing in NO_SHEETS:
            for other in (ONE, SQUARE, thing, None):
                self.assertRaises(NoSheet, turned_otherwise, thing, other)
                self.assertRaises(NoSheet, turned_otherwise, other, thing)


class WhatFollowsTest(unittest.TestCase):
    """[94], and [6]."""

    def test_each_place_in_just_one_peel(self):
        for sheet in ASKED:
            self.assertEqual(sorted(place for peel in peels(sheet) for place in peel), list(range(len(sheet))))

    def test_later_peels_lie_inside_earlier_ones(self):
        for sheet in ASKED:
            told = peels(sheet)
            for earlier, later in combinations(told, 2):
                for place in later:
                    self.assertTrue(any(lies_inside(sheet, three, place) for three in combinations(earlier, 3)))

    def test_the_same_turns(self):
        for sheet in ASKED:
            self.assertEqual(peels(sheared(sheet, -BIG)), peels(sheet))
            self.assertEqual(peels(turned_over(sheet)), peels(sheet))


if __name__ == "__main__":
    unittest.main()
