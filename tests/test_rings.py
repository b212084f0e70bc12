import unittest
from itertools import combinations, product
from math import comb

from bentrows.errors import Bare, NoNumber, NoRing, NoSheet, TooMany
from bentrows.rings import (greatest_ring, high_row, is_ring, low_row, outer_ring, ring_bound, ring_paper, rings_many)
from bentrows.rows import is_cap, is_cup
from bentrows.sheets import from_behind, sheared, turned_over
from samples import (BIG, DOWN_PARABOLA, LARGE, NESTED, NO_NUMBERS, NO_SHEETS, SHEETS, SMALL, THINGS, TWELVE,
                     UP_PARABOLA, above, all_rings, all_rows, lies_inside, made_sheet)

ONE = ((5, 5),)
TWO = ((5, 5), (6, 9))
SQUARE = ((0, 0), (1, 5), (3, -2), (7, 1))
# The point at place 2 lies inside the other three.
DENTED = ((0, 0), (1, 9), (3, 2), (9, 1))
NO_RINGS = THINGS + [(0, 1), (0, 2), [0, 1, 2], (0, 1, 1), (2, 1, 0), (0, 2, 1), (0, 1, 24), (-1, 0, 1), (0, 1, BIG),
                     (False, True, 2), (0, True, 2), (0, 1, None), (0, 1, "2"), (0, 1, (2,)), {0: 0, 1: 1, 2: 2}, "012",
                     ((0, 1, 2),), (0, 1, 2, 2), (0, 1, 2, True)]
CORNERS = range(3, 25)


class RingTest(unittest.TestCase):
    """[41]: which things are rings, and their rows."""

    def test_each_rising_tuple_of_places(self):
        for sheet in SHEETS + [NESTED, SQUARE, DENTED]:
            rings = all_rings(sheet)
            for many in range(len(sheet) + 1):
                for row in combinations(range(len(sheet)), many):
                    self.assertIs(is_ring(row, sheet), row in rings, (row, sheet))

    def test_three_places_are_a_ring(self):
        for sheet in LARGE:
            for three in list(combinations(range(24), 3))[::29]:
                self.assertIs(is_ring(three, sheet), True)

    def test_places_that_are_no_corners(self):
        self.assertIs(is_ring((0, 1, 2, 3), SQUARE), True)
        self.assertIs(is_ring((0, 1, 2, 3), DENTED), False)
        self.assertIs(is_ring((0, 1, 3), DENTED), True)

    def test_parabolas(self):
        for sheet in (UP_PARABOLA, DOWN_PARABOLA):
            for ring in [tuple(range(24)), (0, 5, 9, 23), (1, 2, 3, 4, 5)]:
                self.assertIs(is_ring(ring, sheet), True)
        bent_back = UP_PARABOLA[:23] + ((11, -100001),)
        self.assertIs(is_ring(tuple(range(23)), bent_back), True)
        self.assertIs(is_ring(tuple(range(24)), bent_back), False)

    def test_things_of_whatever_kind(self):
        for sheet in (ONE, TWO, SQUARE, UP_PARABOLA, DOWN_PARABOLA):
            for thing in NO_RINGS + [sheet]:
                self.assertIs(is_ring(thing, sheet), False, thing)
                self.assertRaises(NoRing, low_row, sheet, thing)
                self.assertRaises(NoRing, high_row, sheet, thing)
        for thing in [(0, 1, 4), (0, 1, 2, 3, 4)]:
            self.assertIs(is_ring(thing, SQUARE), False)
            self.assertRaises(NoRing, low_row, SQUARE, thing)

    def test_no_sheet_ahead_of_no_ring(self):
        for thing in NO_SHEETS:
            for ring in ((0, 1, 2), None, (0, 1)):
                self.assertRaises(NoSheet, is_ring, ring, thing)
                self.assertRaises(NoSheet, low_row, thing, ring)
                self.assertRaises(NoSheet, high_row, thing, ring)

    def test_rows_of_each_ring(self):
        for sheet in SHEETS + [NESTED]:
            for ring in all_rings(sheet):
                low = low_row(sheet, ring)
                high = high_row(sheet, ring)
                between = ring[1:-1]
                up = [place for place in between if above(sheet, ring[0], ring[-1], place)]
                self.assertEqual(high, (ring[0], *up, ring[-1]))
                self.assertEqual(low, (ring[0], *[place for place in between if place not in up], ring[-1]))
                self.assertIs(is_cup(low, sheet), True)
                self.assertIs(is_cap(high, sheet), True)

    def test_no_rows_of_what_is_dented(self):
        for sheet in SHEETS + [DENTED]:
            rings = all_rings(sheet)
            for row in combinations(range(len(sheet)), 4):
                if row not in rings:
                    self.assertRaises(NoRing, low_row, sheet, row)
                    self.assertRaises(NoRing, high_row, sheet, row)

    def test_rows_of_parabolas(self):
        whole = tuple(range(24))
        self.assertEqual(low_row(UP_PARABOLA, whole), whole)
        self.assertEqual(high_row(UP_PARABOLA, whole), (0, 23))
        self.assertEqual(low_row(DOWN_PARABOLA, whole), (0, 23))
        self.assertEqual(high_row(DOWN_PARABOLA, whole), whole)


class OuterRingTest(unittest.TestCase):
    """[42]: the outer ring."""

    def test_those_that_lie_inside_no_three(self):
        for sheet in SHEETS + TWELVE + LARGE + [NESTED, SQUARE, DENTED]:
            if len(sheet) > 2:
                inner = [m for m in range(len(sheet)) if any(
                    m not in three and lies_inside(sheet, three, m) for three in combinations(range(len(sheet)), 3))]
                outer = tuple([place for place in range(len(sheet)) if place not in inner])
                self.assertEqual(outer_ring(sheet), outer)
                self.assertIs(is_ring(outer, sheet), True)

    def test_with_and_without_points_within(self):
        self.assertEqual(outer_ring(NESTED), (0, 6, 7))
        self.assertEqual(outer_ring(SQUARE), (0, 1, 2, 3))
        self.assertEqual(outer_ring(DENTED), (0, 1, 3))
        self.assertEqual(outer_ring(UP_PARABOLA), tuple(range(24)))
        self.assertEqual(outer_ring(SQUARE[1:]), (0, 1, 2))

    def test_rings_with_all_places_of_the_outer_ring(self):
        for sheet in SHEETS:
            for ring in all_rings(sheet):
                if all(place in ring for place in outer_ring(sheet)):
                    self.assertEqual(ring, outer_ring(sheet))

    def test_bare(self):
        self.assertRaises(Bare, outer_ring, ONE)
        self.assertRaises(Bare, outer_ring, TWO)


class ManyRingsTest(unittest.TestCase):
    """[43]: how many rings there are, and a greatest one."""

    def test_counted(self):
        for sheet in SHEETS + TWELVE + [NESTED, SQUARE, DENTED]:
            rings = all_rings(sheet)
            for many in CORNERS:
                self.assertEqual(rings_many(sheet, many), len([ring for ring in rings if len(ring) == many]))

    def test_24_points(self):
        for sheet in (UP_PARABOLA, DOWN_PARABOLA):
            for many in CORNERS:
                self.assertEqual(rings_many(sheet, many), comb(24, many))
        for sheet in LARGE:
            self.assertEqual(rings_many(sheet, 3), comb(24, 3))
            fours = [row for row in combinations(range(24), 4) if not any(
                lies_inside(sheet, [p for p in row if p != m], m) for m in row)]
            self.assertEqual(rings_many(sheet, 4), len(fours))

    def test_one_and_two_points(self):
        for sheet in (ONE, TWO):
            self.assertEqual([rings_many(sheet, many) for many in CORNERS], [0] * 22)
            self.assertIsNone(greatest_ring(sheet))

    def test_no_number(self):
        for wrong in NO_NUMBERS + [2, 25, 26, 100]:
            for sheet in (ONE, SQUARE, UP_PARABOLA):
                self.assertRaises(NoNumber, rings_many, sheet, wrong)
            self.assertRaises(NoSheet, rings_many, None, wrong)

    def test_greatest(self):
        for sheet in SHEETS + TWELVE + [NESTED, SQUARE, DENTED]:
            rings = all_rings(sheet)
            if rings:
                self.assertIn(greatest_ring(sheet), rings)
                self.assertEqual(len(greatest_ring(sheet)), max(len(ring) for ring in rings))

    def test_greatest_of_24_points(self):
        for sheet in LARGE:
            ring = greatest_ring(sheet)
            self.assertIs(is_ring(ring, sheet), True)
            self.assertGreater(rings_many(sheet, len(ring)), 0)
            if len(ring) < 24:
                self.assertEqual(rings_many(sheet, len(ring) + 1), 0)
        self.assertEqual(greatest_ring(UP_PARABOLA), tuple(range(24)))
        self.assertEqual(greatest_ring(DOWN_PARABOLA), tuple(range(24)))


class RingPaperTest(unittest.TestCase):
    """[44]: ring papers and their bounds."""

    def plain_bound(self, thing, sheet):
        """The bound by the words of the point, or None, of two dicts of whole numbers with the right keys."""
        bounds = []
        for paper, up in zip(thing, (True, False)):
            for (p, i, j), number in paper.items():
                if number < 0 or (p == i and number < 2):
                    return None
                for k in range(j + 1, len(sheet)):
                    if above(sheet, i, j, k) == up and number >= 2 and not paper[(p, j, k)] > number:
                        return None
        for p, j in combinations(range(len(sheet)), 2):
            bounds.append(sum(max(paper[(p, i, j)] for i in range(p, j)) for paper in thing) - 2)
        return max(bounds, default=0)

    def test_told_papers(self):
        for sheet in SHEETS + TWELVE + [NESTED, SQUARE, DENTED]:
            told = ring_paper(sheet)
            self.assertIsInstance(told, tuple)
            keys = [(p, i, j) for p, i, j in product(range(len(sheet)), repeat=3) if p <= i < j]
            for paper in told:
                self.assertEqual(sorted(paper), keys)
            self.assertEqual(self.plain_bound(told, sheet), ring_bound(told, sheet))
            if len(sheet) > 2:
                self.assertEqual(ring_bound(told, sheet), max(len(ring) for ring in all_rings(sheet)))
                self.assertEqual(ring_bound(told, sheet), len(greatest_ring(sheet)))

    def test_one_and_two_points(self):
        self.assertEqual(ring_paper(ONE), ({}, {}))
        self.assertEqual(ring_bound(({}, {}), ONE), 0)
        for first, second in product(range(5), repeat=2):
            bound = ring_bound(({(0, 0, 1): first}, {(0, 0, 1): second}), TWO)
            self.assertEqual(bound, first + second - 2 if min(first, second) > 1 else None)

    def test_all_numbers_of_three_points(self):
        keys = [(0, 0, 1), (0, 0, 2), (0, 1, 2), (1, 1, 2)]
        for sheet in ((0, 0), (1, 1), (2, 5)), ((0, 0), (1, 1), (2, -5)):
            level = dict.fromkeys(keys, 3)
            level[(0, 1, 2)] = 4
            for numbers in product((-1, 0, 1, 2, 3, 4), repeat=4):
                paper = dict(zip(keys, numbers))
                for thing in ((paper, level), (level, paper)):
                    self.assertEqual(ring_bound(thing, sheet), self.plain_bound(thing, sheet), thing)

    def test_a_number_less_or_more(self):
        for sheet in [sheet for sheet in SMALL if len(sheet) in (4, 5, 6)]:
            told = ring_paper(sheet)
            for which in (0, 1):
                for key in told[which]:
                    for by in (-3, -2, -1, 1, 2, 40):
                        papers = [dict(told[0]), dict(told[1])]
                        papers[which][key] += by
                        thing = tuple(papers)
                        self.assertEqual(ring_bound(thing, sheet), self.plain_bound(thing, sheet))

    def test_other_papers_bound_rings_too(self):
        for sheet in [sheet for sheet in SMALL if len(sheet) > 2]:
            most = max(len(ring) for ring in all_rings(sheet))
            for rise in (1, 2):
                cups = {key: 2 + rise * key[1] for key in ring_paper(sheet)[0]}
                bound = ring_bound((cups, cups), sheet)
                self.assertEqual(bound, self.plain_bound((cups, cups), sheet))
                self.assertGreaterEqual(bound, most)

    def test_nought_binds_nothing(self):
        # No cup begins with 0 and ends with 1 and 2: a 0 or 1 there asks nothing of what comes behind.
        sheet = DOWN_PARABOLA[:4]
        cups, caps = ring_paper(sheet)
        self.assertEqual(cups[(0, 1, 2)], 0)
        cups[(0, 1, 2)] = 1
        self.assertEqual(ring_bound((cups, caps), sheet), 4)
        over = turned_over(sheet)
        self.assertEqual(ring_bound((caps, cups), over), 4)
        self.assertIsNone(ring_bound((cups, caps), over))

    def test_a_key_left_out_or_put_in(self):
        for sheet in (TWO, SQUARE, DENTED):
            told = ring_paper(sheet)
            for which in (0, 1):
                for key in told[which]:
                    papers = [dict(told[0]), dict(told[1])]
                    number = papers[which].pop(key)
                    self.assertIsNone(ring_bound(tuple(papers), sheet))
                    for other in [(0, 0, 0), (1, 0, 1), (0, 1, 1), (0, 0, len(sheet)), (-1, 0, 1), (0, 1), (), 0, None,
                                  "0", key + (3,), key[:2], (key[0], key[2], key[1]), (0, 0, "1"), (None, 0, 1)]:
                        instead = [dict(papers[0]), dict(papers[1])]
                        instead[which][other] = number
                        self.assertIsNone(ring_bound(tuple(instead), sheet), other)
                        instead[which][key] = number
                        self.assertIsNone(ring_bound(tuple(instead), sheet), other)

    def test_truths_are_no_places_and_no_numbers(self):
        fine = {(0, 0, 1): 2}
        self.assertEqual(ring_bound((fine, fine), TWO), 2)
        for wrong in [{(False, 0, 1): 2}, {(0, False, 1): 2}, {(0, 0, True): 2}, {(0, 0, 1): True}, {(0, 0, 1): None},
                      {(0, 0, 1): "2"}, {(0, 0, 1): [2]}, {(0, 0, 1): (2,)}, {(0, 0, 1): {2: 2}}]:
            self.assertIsNone(ring_bound((wrong, fine), TWO))
            self.assertIsNone(ring_bound((fine, wrong), TWO))
        cups, caps = ring_paper(((0, 0), (1, 1), (2, -5)))
        self.assertEqual(cups[(0, 1, 2)], 0)
        cups[(0, 1, 2)] = False
        self.assertIsNone(ring_bound((cups, caps), ((0, 0), (1, 1), (2, -5))))

    def test_things_of_whatever_kind(self):
        for sheet in (ONE, TWO, SQUARE):
            told = ring_paper(sheet)
            for thing in THINGS + [list(told), told[:1], told + told[:1], told + (None,), {0: told[0], 1: told[1]},
                                   told[0], (told,), (told[0], list(told[1])), (None, told[1]), (told[0], None), sheet]:
                self.assertIsNone(ring_bound(thing, sheet), thing)
            for thing in THINGS:
                if thing != {} or sheet != ONE:
                    self.assertIsNone(ring_bound((thing, told[1]), sheet))
                    self.assertIsNone(ring_bound((told[0], thing), sheet))

    def test_up_first(self):
        for sheet in (UP_PARABOLA[:5], DOWN_PARABOLA[:5]):
            first, second = ring_paper(sheet)
            self.assertEqual(ring_bound((first, second), sheet), 5)
            self.assertIsNone(ring_bound((second, first), sheet))

    def test_too_many(self):
        for sheet in [made_sheet(13, 60, 3), UP_PARABOLA[:13], *LARGE]:
            self.assertRaises(TooMany, ring_paper, sheet)
            for thing in (None, ({}, {}), 3):
                self.assertRaises(TooMany, ring_bound, thing, sheet)
        for thing in NO_SHEETS:
            self.assertRaises(NoSheet, ring_paper, thing)
            self.assertRaises(NoSheet, ring_bound, ({}, {}), thing)
        for sheet in TWELVE:
            self.assertIsNone(ring_bound(None, sheet))


class WhatFollowsTest(unittest.TestCase):
    """[45], and [6]: what is told of turns alone."""

    def test_parts_of_rings(self):
        for sheet in [sheet for sheet in SMALL + TWELVE[:1] if len(sheet) > 4]:
            for ring in all_rings(sheet)[-40:]:
                for many in range(3, len(ring)):
                    for part in combinations(ring, many):
                        self.assertIs(is_ring(part, sheet), True)

    def test_as_many_rings(self):
        for sheet in SHEETS + TWELVE + LARGE[:1]:
            for moved in (sheared(sheet, 3), sheared(sheet, -BIG), turned_over(sheet), from_behind(sheet)):
                for many in range(3, 8) if len(sheet) < 9 else (4, 6, 12):
                    self.assertEqual(rings_many(moved, many), rings_many(sheet, many))
                if len(sheet) > 2:
                    self.assertEqual(len(greatest_ring(moved)), len(greatest_ring(sheet)))
                    self.assertEqual(len(outer_ring(moved)), len(outer_ring(sheet)))

    def test_the_same_turns(self):
        for sheet in [sheet for sheet in SHEETS + TWELVE if len(sheet) > 2]:
            moved = sheared(sheet, 41)
            self.assertEqual(greatest_ring(moved), greatest_ring(sheet))
            self.assertEqual(outer_ring(moved), outer_ring(sheet))
            self.assertEqual(ring_paper(moved), ring_paper(sheet))
            self.assertEqual(ring_bound(ring_paper(sheet), moved), len(greatest_ring(sheet)))

    def test_a_cup_and_a_cap_with_the_same_ends(self):
        for sheet in SHEETS:
            found = [cup + cap[1:-1] for cup in all_rows(sheet, True) for cap in all_rows(sheet, False)
                     if cup[0] == cap[0] and cup[-1] == cap[-1] and len(cup) + len(cap) > 4]
            self.assertEqual(sorted(tuple(sorted(ring)) for ring in found), sorted(all_rings(sheet)))


if __name__ == "__main__":
    unittest.main()
