"""What holds of all functions: [4] and [5]."""

import copy
import unittest

from bentrows import rows, sheets, texts
from bentrows.errors import NoSheet
from samples import LARGE, NO_SHEETS, SHEETS, THINGS

# Each function that is handed a sheet, asked with other things that it would refuse for themselves.
WITH_WRONG_OTHERS = {
    "turn": lambda sheet, wrong: sheets.turn(sheet, wrong, wrong, wrong),
    "all_turns": lambda sheet, wrong: sheets.all_turns(sheet),
    "turned_over": lambda sheet, wrong: sheets.turned_over(sheet),
    "from_behind": lambda sheet, wrong: sheets.from_behind(sheet),
    "sheared": lambda sheet, wrong: sheets.sheared(sheet, wrong),
    "without": lambda sheet, wrong: sheets.without(sheet, wrong),
    "show_sheet": lambda sheet, wrong: texts.show_sheet(sheet),
    "is_cup": lambda sheet, wrong: rows.is_cup(wrong, sheet),
    "is_cap": lambda sheet, wrong: rows.is_cap(wrong, sheet),
    "cup_table": lambda sheet, wrong: rows.cup_table(sheet),
    "cap_table": lambda sheet, wrong: rows.cap_table(sheet),
    "longest_cup": lambda sheet, wrong: rows.longest_cup(sheet),
    "longest_cap": lambda sheet, wrong: rows.longest_cap(sheet),
    "is_cup_paper": lambda sheet, wrong: rows.is_cup_paper(wrong, sheet),
    "is_cap_paper": lambda sheet, wrong: rows.is_cap_paper(wrong, sheet),
}
DICTS_OF_SHEETS = [sheets.all_turns, rows.cup_table, rows.cap_table]


def answers(sheet):
    """All that is told of a sheet."""
    told = [ask(sheet) for ask in DICTS_OF_SHEETS]
    told += [sheets.is_sheet(sheet), sheets.turned_over(sheet), sheets.from_behind(sheet), sheets.sheared(sheet, 3)]
    told += [texts.show_sheet(sheet), rows.longest_cup(sheet), rows.longest_cap(sheet)]
    told += [rows.is_cup((0, 1, 2), sheet), rows.is_cap((0, 1, 2), sheet)]
    told += [rows.is_cup_paper(told[1], sheet), rows.is_cap_paper(told[1], sheet)]
    if len(sheet) > 2:
        told += [sheets.turn(sheet, 0, 1, 2), sheets.without(sheet, 1)]
    return told


class NoSheetTest(unittest.TestCase):
    """[5]: NoSheet goes ahead of all else."""

    def test_with_things_refused_otherwise(self):
        for name, ask in WITH_WRONG_OTHERS.items():
            for thing in NO_SHEETS:
                for wrong in (None, True, "a", -1, [], ()):
                    with self.assertRaises(NoSheet, msg=(name, thing)):
                        ask(thing, wrong)

    def test_with_things_that_would_do(self):
        for thing in NO_SHEETS:
            with self.assertRaises(NoSheet):
                sheets.turn(thing, 0, 1, 2)
            with self.assertRaises(NoSheet):
                sheets.sheared(thing, 1)
            with self.assertRaises(NoSheet):
                sheets.without(thing, 0)
            with self.assertRaises(NoSheet):
                rows.is_cup((0, 1), thing)
            with self.assertRaises(NoSheet):
                rows.is_cap_paper({}, thing)


class NothingChangesTest(unittest.TestCase):
    """[4]: what is handed in stays, what is told is the asker's own."""

    def test_points_stay(self):
        points = [(5, 1), (0, 0), (3, 7), (-2, 9)]
        kept = list(points)
        sheet = sheets.sheet_of(points)
        self.assertEqual(points, kept)
        points.clear()
        self.assertEqual(sheet, tuple(sorted(kept)))

    def test_refused_things_stay(self):
        for thing in THINGS + [[(2, 2), (1, 1), (0, 0)], [(1, 1), (1, 2), (0, 0)]]:
            kept = copy.deepcopy(thing)
            for ask in (sheets.is_sheet, lambda thing: rows.is_cup(thing, SHEETS[-1]),
                        lambda thing: rows.is_cap_paper(thing, SHEETS[-1]),
                        lambda thing: self.assertRaises(ValueError, sheets.sheet_of, thing)):
                ask(thing)
                self.assertEqual(repr(thing), repr(kept))

    def test_papers_stay(self):
        for sheet in SHEETS:
            paper = rows.cup_table(sheet)
            kept = list(paper.items())
            rows.is_cup_paper(paper, sheet)
            rows.is_cap_paper(paper, sheet)
            self.assertEqual(list(paper.items()), kept)

    def test_the_same_asked_again(self):
        for sheet in SHEETS + LARGE:
            first = answers(sheet)
            kept = copy.deepcopy(first)
            self.assertEqual(answers(tuple(list(sheet))), kept)
            self.assertEqual(first, kept)

    def test_told_dicts_are_the_askers_own(self):
        for sheet in SHEETS:
            kept = answers(sheet)
            for ask in DICTS_OF_SHEETS:
                told = ask(sheet)
                told.clear()
                told["mine"] = 1
                again = ask(sheet)
                self.assertIsNot(again, told)
            self.assertEqual(answers(sheet), kept)


if __name__ == "__main__":
    unittest.main()
