"""What holds of all functions: [4] and [5]."""

import copy
import unittest

from bentrows import bothways, drawings, empties, rings, rows, sheets, texts
from bentrows.errors import NoRing, NoSheet
from samples import LARGE, NO_SHEETS, SHEETS, THINGS, UP_PARABOLA

# Each function that is handed a sheet, asked with other things that it would refuse for themselves.
WITH_WRONG_OTHERS = {
    "turn": lambda sheet, wrong: sheets.turn(sheet, wrong, wrong, wrong),
    "all_turns": lambda sheet, wrong: sheets.all_turns(sheet),
    "turned_over": lambda sheet, wrong: sheets.turned_over(sheet),
    "from_behind": lambda sheet, wrong: sheets.from_behind(sheet),
    "sheared": lambda sheet, wrong: sheets.sheared(sheet, wrong),
    "without": lambda sheet, wrong: sheets.without(sheet, wrong),
    "show_sheet": lambda sheet, wrong: texts.show_sheet(sheet),
    "is_cup": lambda sheet, wrong: rows.is_cup(wrong, sheet),
    "is_cap": lambda sheet, wrong: rows.is_cap(wrong, sheet),
    "cup_table": lambda sheet, wrong: rows.cup_table(sheet),
    "cap_table": lambda sheet, wrong: rows.cap_table(sheet),
    "longest_cup": lambda sheet, wrong: rows.longest_cup(sheet),
    "longest_cap": lambda sheet, wrong: rows.longest_cap(sheet),
    "is_cup_paper": lambda sheet, wrong: rows.is_cup_paper(wrong, sheet),
    "is_cap_paper": lambda sheet, wrong: rows.is_cap_paper(wrong, sheet),
    "cup_or_cap": lambda sheet, wrong: bothways.cup_or_cap(sheet, wrong, wrong),
    "is_bar": lambda sheet, wrong: bothways.is_bar(wrong, sheet, wrong, wrong),
    "joined": lambda sheet, wrong: bothways.joined(sheet, wrong, wrong),
    "cup_ends": lambda sheet, wrong: bothways.cup_ends(sheet, wrong),
    "cap_starts": lambda sheet, wrong: bothways.cap_starts(sheet, wrong),
    "is_ring": lambda sheet, wrong: rings.is_ring(wrong, sheet),
    "low_row": lambda sheet, wrong: rings.low_row(sheet, wrong),
    "high_row": lambda sheet, wrong: rings.high_row(sheet, wrong),
    "outer_ring": lambda sheet, wrong: rings.outer_ring(sheet),
    "rings_many": lambda sheet, wrong: rings.rings_many(sheet, wrong),
    "greatest_ring": lambda sheet, wrong: rings.greatest_ring(sheet),
    "ring_paper": lambda sheet, wrong: rings.ring_paper(sheet),
    "ring_bound": lambda sheet, wrong: rings.ring_bound(wrong, sheet),
    "within": lambda sheet, wrong: empties.within(sheet, wrong),
    "is_empty_ring": lambda sheet, wrong: empties.is_empty_ring(wrong, sheet),
    "empties_many": lambda sheet, wrong: empties.empties_many(sheet, wrong),
    "greatest_empty": lambda sheet, wrong: empties.greatest_empty(sheet),
    "empty_three": lambda sheet, wrong: empties.empty_three(sheet, wrong),
    "set_beside one": lambda sheet, wrong: drawings.set_beside(sheet, wrong),
    "set_beside other": lambda sheet, wrong: drawings.set_beside(UP_PARABOLA, sheet),
    "lacks": lambda sheet, wrong: drawings.lacks(sheet, wrong, wrong),
}
WITH_WRONG_RINGS = [rings.low_row, rings.high_row, empties.within, empties.empty_three]
LISTS_AND_DICTS = [
    sheets.all_turns, rows.cup_table, rows.cap_table,
    lambda sheet: bothways.cup_ends(sheet, 3), lambda sheet: bothways.cap_starts(sheet, 2),
]
# Those of sheets with three points or more, and few.
MORE_LISTS_AND_DICTS = [
    lambda sheet: empties.within(sheet, rings.outer_ring(sheet)),
    lambda sheet: bothways.cup_or_cap(sheet, 9, 9)[1][0], lambda sheet: bothways.cup_or_cap(sheet, 9, 9)[1][1],
    lambda sheet: rings.ring_paper(sheet)[0], lambda sheet: rings.ring_paper(sheet)[1],
]


def answers(sheet):
    """All that is told of a sheet."""
    told = [ask(sheet) for ask in LISTS_AND_DICTS]
    told += [sheets.is_sheet(sheet), sheets.turned_over(sheet), sheets.from_behind(sheet), sheets.sheared(sheet, 3)]
    told += [texts.show_sheet(sheet), rows.longest_cup(sheet), rows.longest_cap(sheet)]
    told += [rows.is_cup((0, 1, 2), sheet), rows.is_cap((0, 1, 2), sheet)]
    told += [rows.is_cup_paper(told[1], sheet), rows.is_cap_paper(told[1], sheet)]
    told += [bothways.cup_or_cap(sheet, 4, 5), bothways.is_bar((told[1], told[2]), sheet, 4, 5)]
    told += [rings.rings_many(sheet, 4), rings.greatest_ring(sheet), drawings.lacks(sheet, 4, 5)]
    if len(sheet) > 2:
        told += [sheets.turn(sheet, 0, 1, 2), sheets.without(sheet, 1), bothways.joined(sheet, (0, 1), (1, 2))]
        told += [rings.is_ring((0, 1, 2), sheet), rings.low_row(sheet, (0, 1, 2)), rings.high_row(sheet, (0, 1, 2))]
        told += [rings.outer_ring(sheet), empties.is_empty_ring((0, 1, 2), sheet)]
        told += [empties.empty_three(sheet, rings.outer_ring(sheet)), empties.within(sheet, rings.outer_ring(sheet))]
    if len(sheet) < 11:
        told += [rings.ring_paper(sheet), rings.ring_bound(rings.ring_paper(sheet), sheet)]
        told += [empties.empties_many(sheet, 4), empties.greatest_empty(sheet), drawings.set_beside(sheet, sheet)]
    return told


def told_of_numbers():
    told = [bothways.room(k, 4) for k in range(2, 10)] + [drawings.drawing(k, 4) for k in range(2, 8)]
    return told + [drawings.ringless(many) for many in range(3, 7)]


class NoSheetTest(unittest.TestCase):
    """[5]: NoSheet goes ahead of all else."""

    def test_with_things_refused_otherwise(self):
        for name, ask in WITH_WRONG_OTHERS.items():
            for thing in NO_SHEETS:
                for wrong in (None, True, "a", -1, [], ()):
                    with self.assertRaises(NoSheet, msg=(name, thing)):
                        ask(thing, wrong)

    def test_with_things_that_would_do(self):
        for thing in NO_SHEETS:
            with self.assertRaises(NoSheet):
                sheets.turn(thing, 0, 1, 2)
            with self.assertRaises(NoSheet):
                sheets.sheared(thing, 1)
            with self.assertRaises(NoSheet):
                sheets.without(thing, 0)
            with self.assertRaises(NoSheet):
                rows.is_cup((0, 1), thing)
            with self.assertRaises(NoSheet):
                rows.is_cap_paper({}, thing)


class NoRingTest(unittest.TestCase):
    """[5]: what is handed in as a ring, and is none, is refused with NoRing."""

    def test_things_of_whatever_kind(self):
        for ask in WITH_WRONG_RINGS:
            for sheet in (UP_PARABOLA[:1], UP_PARABOLA[:2], UP_PARABOLA[:5]):
                for thing in THINGS + [(0, 1, 5), (0, 0, 1), [0, 1, 2], sheet]:
                    with self.assertRaises(NoRing, msg=(ask, thing)):
                        ask(sheet, thing)


class NothingChangesTest(unittest.TestCase):
    """[4]: what is handed in stays, what is told is the asker's own."""

    def test_points_stay(self):
        points = [(5, 1), (0, 0), (3, 7), (-2, 9)]
        kept = list(points)
        sheet = sheets.sheet_of(points)
        self.assertEqual(points, kept)
        points.clear()
        self.assertEqual(sheet, tuple(sorted(kept)))

    def test_refused_things_stay(self):
        for thing in THINGS + [[(2, 2), (1, 1), (0, 0)], [(1, 1), (1, 2), (0, 0)]]:
            kept = copy.deepcopy(thing)
            for ask in (sheets.is_sheet, lambda thing: rows.is_cup(thing, SHEETS[-1]),
                        lambda thing: rows.is_cap_paper(thing, SHEETS[-1]),
                        lambda thing: bothways.is_bar(thing, SHEETS[-1], 3, 3),
                        lambda thing: bothways.is_bar((thing, thing), SHEETS[-1], 3, 3),
                        lambda thing: rings.is_ring(thing, SHEETS[-1]),
                        lambda thing: rings.ring_bound(thing, SHEETS[-1]),
                        lambda thing: rings.ring_bound((thing, thing), SHEETS[-1]),
                        lambda thing: empties.is_empty_ring(thing, SHEETS[-1]),
                        lambda thing: self.assertRaises(ValueError, sheets.sheet_of, thing)):
                ask(thing)
                self.assertEqual(repr(thing), repr(kept))

    def test_papers_stay(self):
        for sheet in SHEETS:
            paper = rows.cup_table(sheet)
            kept = list(paper.items())
            rows.is_cup_paper(paper, sheet)
            rows.is_cap_paper(paper, sheet)
            self.assertEqual(list(paper.items()), kept)

    def test_bars_and_ring_papers_stay(self):
        for sheet in SHEETS:
            bar = (rows.cup_table(sheet), rows.cap_table(sheet))
            told = rings.ring_paper(sheet)
            kept = repr((bar, told))
            bothways.is_bar(bar, sheet, 3, 4)
            bothways.is_bar(bar, sheet, 9, 9)
            rings.ring_bound(told, sheet)
            rings.ring_bound(told[::-1], sheet)
            self.assertEqual(repr((bar, told)), kept)

    def test_the_same_asked_again(self):
        for sheet in SHEETS + LARGE:
            first = answers(sheet)
            kept = copy.deepcopy(first)
            self.assertEqual(answers(tuple(list(sheet))), kept)
            self.assertEqual(first, kept)

    def test_the_same_numbers_asked_again(self):
        self.assertEqual(told_of_numbers(), told_of_numbers())

    def test_told_lists_and_dicts_are_the_askers_own(self):
        for sheet in SHEETS:
            kept = answers(sheet)
            for ask in LISTS_AND_DICTS + (MORE_LISTS_AND_DICTS if len(sheet) > 2 else []):
                told = ask(sheet)
                fresh = copy.deepcopy(told)
                self.spoil(told)
                again = ask(sheet)
                self.assertIsNot(again, told)
                self.assertEqual(again, fresh)
            self.assertEqual(answers(sheet), kept)

    def test_the_parts_of_one_answer_are_unlike(self):
        for sheet in SHEETS:
            for told in (bothways.cup_or_cap(sheet, 9, 9)[1], rings.ring_paper(sheet)):
                fresh = copy.deepcopy(told[1])
                self.spoil(told[0])
                self.assertEqual(told[1], fresh)

    def spoil(self, told):
        told.clear()
        if isinstance(told, dict):
            told["mine"] = 1
        else:
            told.append("mine")


if __name__ == "__main__":
    unittest.main()
