"""What holds of the whole program: [3], [4], [5] and [6], and what follows ([45], [54], [64]) over all of it."""

import copy
import inspect
import unittest
from itertools import combinations, product
from math import comb

from bentrows import bothways, desk, drawings, empties, peels, rings, rows, sheets, signs, texts, ties
from bentrows.errors import Apart, Bare, NoNumber, NoPlace, NoRing, NoSheet, NoSigns, OnLine, TooMany
from samples import BIG, LARGE, NESTED, NO_SHEETS, SHEETS, THINGS, TWELVE, UP_PARABOLA, made_sheet, on_line

# Each function that is handed a sheet, asked with other things that it would refuse for themselves.
WITH_WRONG_OTHERS = {
    "turn": lambda sheet, wrong: sheets.turn(sheet, wrong, wrong, wrong),
    "all_turns": lambda sheet, wrong: sheets.all_turns(sheet),
    "turned_over": lambda sheet, wrong: sheets.turned_over(sheet),
    "from_behind": lambda sheet, wrong: sheets.from_behind(sheet),
    "sheared": lambda sheet, wrong: sheets.sheared(sheet, wrong),
    "without": lambda sheet, wrong: sheets.without(sheet, wrong),
    "show_sheet": lambda sheet, wrong: texts.show_sheet(sheet),
    "is_cup": lambda sheet, wrong: rows.is_cup(wrong, sheet),
    "is_cap": lambda sheet, wrong: rows.is_cap(wrong, sheet),
    "cup_table": lambda sheet, wrong: rows.cup_table(sheet),
    "cap_table": lambda sheet, wrong: rows.cap_table(sheet),
    "longest_cup": lambda sheet, wrong: rows.longest_cup(sheet),
    "longest_cap": lambda sheet, wrong: rows.longest_cap(sheet),
    "is_cup_paper": lambda sheet, wrong: rows.is_cup_paper(wrong, sheet),
    "is_cap_paper": lambda sheet, wrong: rows.is_cap_paper(wrong, sheet),
    "cup_or_cap": lambda sheet, wrong: bothways.cup_or_cap(sheet, wrong, wrong),
    "is_bar": lambda sheet, wrong: bothways.is_bar(wrong, sheet, wrong, wrong),
    "joined": lambda sheet, wrong: bothways.joined(sheet, wrong, wrong),
    "cup_ends": lambda sheet, wrong: bothways.cup_ends(sheet, wrong),
    "cap_starts": lambda sheet, wrong: bothways.cap_starts(sheet, wrong),
    "is_ring": lambda sheet, wrong: rings.is_ring(wrong, sheet),
    "low_row": lambda sheet, wrong: rings.low_row(sheet, wrong),
    "high_row": lambda sheet, wrong: rings.high_row(sheet, wrong),
    "outer_ring": lambda sheet, wrong: rings.outer_ring(sheet),
    "rings_many": lambda sheet, wrong: rings.rings_many(sheet, wrong),
    "greatest_ring": lambda sheet, wrong: rings.greatest_ring(sheet),
    "ring_paper": lambda sheet, wrong: rings.ring_paper(sheet),
    "ring_bound": lambda sheet, wrong: rings.ring_bound(wrong, sheet),
    "within": lambda sheet, wrong: empties.within(sheet, wrong),
    "is_empty_ring": lambda sheet, wrong: empties.is_empty_ring(wrong, sheet),
    "empties_many": lambda sheet, wrong: empties.empties_many(sheet, wrong),
    "greatest_empty": lambda sheet, wrong: empties.greatest_empty(sheet),
    "empty_three": lambda sheet, wrong: empties.empty_three(sheet, wrong),
    "set_beside one": lambda sheet, wrong: drawings.set_beside(sheet, wrong),
    "set_beside other": lambda sheet, wrong: drawings.set_beside(UP_PARABOLA, sheet),
    "lacks": lambda sheet, wrong: drawings.lacks(sheet, wrong, wrong),
    "signs_of": lambda sheet, wrong: signs.signs_of(sheet),
    "crossings": lambda sheet, wrong: ties.crossings(sheet),
    "sides": lambda sheet, wrong: ties.sides(sheet, wrong, wrong),
    "depths_many": lambda sheet, wrong: ties.depths_many(sheet, wrong),
    "halving": lambda sheet, wrong: ties.halving(sheet),
    "peels": lambda sheet, wrong: peels.peels(sheet),
    "layer": lambda sheet, wrong: peels.layer(sheet, wrong),
    "lifted": lambda sheet, wrong: peels.lifted(sheet, wrong, wrong),
    "leeway": lambda sheet, wrong: peels.leeway(sheet, wrong),
    "turned_otherwise one": lambda sheet, wrong: peels.turned_otherwise(sheet, wrong),
    "turned_otherwise other": lambda sheet, wrong: peels.turned_otherwise(UP_PARABOLA, sheet),
}
WITH_WRONG_RINGS = [rings.low_row, rings.high_row, empties.within, empties.empty_three]
# Each function that is handed a place, asked with other things that it would refuse for themselves.
WITH_WRONG_PLACES = [
    lambda sheet, wrong: sheets.turn(sheet, wrong, 1, 2), lambda sheet, wrong: sheets.turn(sheet, 0, 1, wrong),
    sheets.without, peels.layer, peels.leeway, lambda sheet, wrong: peels.lifted(sheet, wrong, None),
    lambda sheet, wrong: peels.lifted(sheet, wrong, 1), lambda sheet, wrong: ties.sides(sheet, wrong, 1),
    lambda sheet, wrong: ties.sides(sheet, 0, wrong),
]
# The interface: each module's functions with their arguments.
INTERFACE = {
    sheets: ["is_sheet(thing)", "sheet_of(points)", "turn(sheet, i, j, k)", "all_turns(sheet)", "turned_over(sheet)",
             "from_behind(sheet)", "sheared(sheet, by)", "without(sheet, place)"],
    texts: ["show_sheet(sheet)", "read_sheet(text)"],
    rows: ["is_cup(thing, sheet)", "is_cap(thing, sheet)", "cup_table(sheet)", "cap_table(sheet)",
           "longest_cup(sheet)", "longest_cap(sheet)", "is_cup_paper(thing, sheet)", "is_cap_paper(thing, sheet)"],
    bothways: ["room(k, l)", "cup_or_cap(sheet, k, l)", "is_bar(thing, sheet, k, l)", "joined(sheet, cup, cap)",
               "cup_ends(sheet, many)", "cap_starts(sheet, many)"],
    rings: ["is_ring(thing, sheet)", "low_row(sheet, ring)", "high_row(sheet, ring)", "outer_ring(sheet)",
            "rings_many(sheet, many)", "greatest_ring(sheet)", "ring_paper(sheet)", "ring_bound(thing, sheet)"],
    empties: ["within(sheet, ring)", "is_empty_ring(thing, sheet)", "empties_many(sheet, many)",
              "greatest_empty(sheet)", "empty_three(sheet, ring)"],
    drawings: ["set_beside(one, other)", "lacks(sheet, k, l)", "drawing(k, l)", "ringless(many)"],
    signs: ["are_signs(many, thing)", "signs_of(sheet)", "cup_by_signs(many, signs)",
            "is_ring_by_signs(thing, many, signs)", "all_signs(many)", "sheet_by_signs(many, signs)"],
    ties: ["crossings(sheet)", "sides(sheet, i, j)", "depths_many(sheet, depth)", "halving(sheet)"],
    peels: ["peels(sheet)", "layer(sheet, place)", "lifted(sheet, place, by)", "leeway(sheet, place)",
            "turned_otherwise(one, other)"],
    desk.Desk: ["say(self, line)"],
}
LISTS_AND_DICTS = [
    sheets.all_turns, rows.cup_table, rows.cap_table,
    lambda sheet: bothways.cup_ends(sheet, 3), lambda sheet: bothways.cap_starts(sheet, 2),
    ties.crossings, ties.halving, peels.peels,
    lambda sheet: peels.turned_otherwise(sheet, sheets.turned_over(sheet)),
    lambda sheet: signs.all_signs(min(len(sheet), 5)),
]
# Those of sheets with three points or more, and few.
MORE_LISTS_AND_DICTS = [
    lambda sheet: empties.within(sheet, rings.outer_ring(sheet)),
    lambda sheet: bothways.cup_or_cap(sheet, 9, 9)[1][0], lambda sheet: bothways.cup_or_cap(sheet, 9, 9)[1][1],
    lambda sheet: rings.ring_paper(sheet)[0], lambda sheet: rings.ring_paper(sheet)[1],
]


def answers(sheet):
    """All that is told of a sheet."""
    told = [ask(sheet) for ask in LISTS_AND_DICTS]
    told += [sheets.is_sheet(sheet), sheets.turned_over(sheet), sheets.from_behind(sheet), sheets.sheared(sheet, 3)]
    told += [texts.show_sheet(sheet), rows.longest_cup(sheet), rows.longest_cap(sheet)]
    told += [rows.is_cup((0, 1, 2), sheet), rows.is_cap((0, 1, 2), sheet)]
    told += [rows.is_cup_paper(told[1], sheet), rows.is_cap_paper(told[1], sheet)]
    told += [bothways.cup_or_cap(sheet, 4, 5), bothways.is_bar((told[1], told[2]), sheet, 4, 5)]
    told += [rings.rings_many(sheet, 4), rings.greatest_ring(sheet), drawings.lacks(sheet, 4, 5)]
    told += [signs.signs_of(sheet), signs.are_signs(len(sheet), signs.signs_of(sheet))]
    told += [signs.cup_by_signs(len(sheet), signs.signs_of(sheet)), ties.depths_many(sheet, 1)]
    told += [signs.is_ring_by_signs((0, 1, 2, 3), len(sheet), signs.signs_of(sheet))]
    told += [peels.layer(sheet, 0), peels.leeway(sheet, 0), peels.lifted(sheet, 0, 0)]
    if len(sheet) > 2:
        told += [sheets.turn(sheet, 0, 1, 2), sheets.without(sheet, 1), bothways.joined(sheet, (0, 1), (1, 2))]
        told += [rings.is_ring((0, 1, 2), sheet), rings.low_row(sheet, (0, 1, 2)), rings.high_row(sheet, (0, 1, 2))]
        told += [rings.outer_ring(sheet), empties.is_empty_ring((0, 1, 2), sheet), ties.sides(sheet, 0, 2)]
        told += [empties.empty_three(sheet, rings.outer_ring(sheet)), empties.within(sheet, rings.outer_ring(sheet))]
    if len(sheet) < 11:
        told += [rings.ring_paper(sheet), rings.ring_bound(rings.ring_paper(sheet), sheet)]
        told += [empties.empties_many(sheet, 4), empties.greatest_empty(sheet), drawings.set_beside(sheet, sheet)]
    return told


def told_of_numbers():
    told = [bothways.room(k, 4) for k in range(2, 10)] + [drawings.drawing(k, 4) for k in range(2, 8)]
    told += [signs.all_signs(many) for many in range(1, 6)]
    told += [signs.sheet_by_signs(many, row) for many in range(1, 5) for row in signs.all_signs(many)]
    return told + [drawings.ringless(many) for many in range(3, 7)]


class InterfaceTest(unittest.TestCase):
    """The names and arguments that the interface tells."""

    def test_names_and_arguments(self):
        for holder, told in INTERFACE.items():
            for form in told:
                name = form.partition("(")[0]
                self.assertEqual(name + str(inspect.signature(getattr(holder, name))), form)
        self.assertEqual(str(inspect.signature(desk.Desk)), "()")

    def test_each_function_handed_a_sheet_is_asked_below(self):
        asked = {name.partition(" ")[0] for name in WITH_WRONG_OTHERS}
        told = [form.partition("(") for forms in INTERFACE.values() for form in forms]
        self.assertEqual(asked, {name for name, bracket, rest in told if "sheet" in rest or "one" in rest})


class NoSheetTest(unittest.TestCase):
    """[5]: NoSheet goes ahead of all else."""

    def test_with_things_refused_otherwise(self):
        for name, ask in WITH_WRONG_OTHERS.items():
            for thing in NO_SHEETS:
                for wrong in (None, True, "a", -1, [], ()):
                    with self.assertRaises(NoSheet, msg=(name, thing)):
                        ask(thing, wrong)

    def test_with_things_that_would_do(self):
        for thing in NO_SHEETS:
            with self.assertRaises(NoSheet):
                sheets.turn(thing, 0, 1, 2)
            with self.assertRaises(NoSheet):
                sheets.sheared(thing, 1)
            with self.assertRaises(NoSheet):
                sheets.without(thing, 0)
            with self.assertRaises(NoSheet):
                rows.is_cup((0, 1), thing)
            with self.assertRaises(NoSheet):
                rows.is_cap_paper({}, thing)
            with self.assertRaises(NoSheet):
                ties.sides(thing, 0, 1)
            with self.assertRaises(NoSheet):
                ties.depths_many(thing, 0)
            with self.assertRaises(NoSheet):
                peels.layer(thing, 0)
            with self.assertRaises(NoSheet):
                peels.lifted(thing, 0, 1)
            with self.assertRaises(NoSheet):
                peels.leeway(thing, 0)
            with self.assertRaises(NoSheet):
                peels.turned_otherwise(UP_PARABOLA[:3], thing)


class NoRingTest(unittest.TestCase):
    """[5]: what is handed in as a ring, and is none, is refused with NoRing."""

    def test_things_of_whatever_kind(self):
        for ask in WITH_WRONG_RINGS:
            for sheet in (UP_PARABOLA[:1], UP_PARABOLA[:2], UP_PARABOLA[:5]):
                for thing in THINGS + [(0, 1, 5), (0, 0, 1), [0, 1, 2], sheet]:
                    with self.assertRaises(NoRing, msg=(ask, thing)):
                        ask(sheet, thing)


class NoPlaceTest(unittest.TestCase):
    """[5]: what is handed in as a place, and is none, is refused with NoPlace."""

    def test_things_of_whatever_kind(self):
        others = [thing for thing in THINGS if type(thing) is not int]
        for ask in WITH_WRONG_PLACES:
            for sheet in (UP_PARABOLA[:1], UP_PARABOLA[:2], UP_PARABOLA[:5]):
                for thing in others + [-1, -5, 5, 24, BIG, -BIG, (0,), [0], {0: 0}, "0", sheet]:
                    with self.assertRaises(NoPlace, msg=(ask, thing)):
                        ask(sheet, thing)


class FirstToldTest(unittest.TestCase):
    """[5]: where several refusals are due, the one told first goes."""

    def refuses(self, error, ask, *asked):
        with self.assertRaises(error, msg=(ask.__name__, asked)) as caught:
            ask(*asked)
        self.assertIs(type(caught.exception), error)

    def test_of_sheets(self):
        line, one, large = [(0, 0), (1, 1), (2, 2)], ((5, 5),), UP_PARABOLA
        self.refuses(NoSheet, sheets.sheet_of, line + [(2, 7)])
        self.refuses(NoPlace, sheets.without, one, 1)
        self.refuses(Bare, sheets.without, one, 0)
        self.refuses(NoNumber, empties.empties_many, large, 2)
        self.refuses(TooMany, empties.empties_many, large, 3)
        self.refuses(NoSheet, drawings.set_beside, large, None)
        self.refuses(TooMany, drawings.set_beside, large, one)
        self.refuses(NoNumber, drawings.drawing, 9, 10)
        self.refuses(TooMany, drawings.drawing, 9, 9)

    def test_of_places_and_lifts(self):
        sheet = ((0, 0), (1, 1), (2, 5))
        self.refuses(NoSheet, peels.lifted, sheet[::-1], 3, None)
        self.refuses(NoPlace, peels.lifted, sheet, 3, None)
        self.refuses(NoNumber, peels.lifted, sheet, 2, None)
        self.refuses(OnLine, peels.lifted, sheet, 2, -3)
        self.refuses(NoSheet, peels.turned_otherwise, sheet[:2], sheet[::-1])
        self.refuses(NoSheet, peels.turned_otherwise, sheet[::-1], sheet[:2])
        self.refuses(Apart, peels.turned_otherwise, sheet, sheet[:2])

    def test_of_signs(self):
        for ask in (signs.cup_by_signs, signs.sheet_by_signs):
            self.refuses(NoNumber, ask, 25, None)
            self.refuses(NoSigns, ask, 3, None)
        self.refuses(NoNumber, signs.is_ring_by_signs, None, 25, None)
        self.refuses(NoSigns, signs.is_ring_by_signs, None, 3, None)
        self.refuses(NoNumber, signs.sheet_by_signs, 5, (1, 0))
        self.refuses(NoNumber, signs.sheet_by_signs, 5, (1,) * 10)


class NothingChangesTest(unittest.TestCase):
    """[4]: what is handed in stays, what is told is the asker's own."""

    def test_points_stay(self):
        points = [(5, 1), (0, 0), (3, 7), (-2, 9)]
        kept = list(points)
        sheet = sheets.sheet_of(points)
        self.assertEqual(points, kept)
        points.clear()
        self.assertEqual(sheet, tuple(sorted(kept)))

    def test_refused_things_stay(self):
        for thing in THINGS + [[(2, 2), (1, 1), (0, 0)], [(1, 1), (1, 2), (0, 0)]]:
            kept = copy.deepcopy(thing)
            for ask in (sheets.is_sheet, lambda thing: rows.is_cup(thing, SHEETS[-1]),
                        lambda thing: rows.is_cap_paper(thing, SHEETS[-1]),
                        lambda thing: bothways.is_bar(thing, SHEETS[-1], 3, 3),
                        lambda thing: bothways.is_bar((thing, thing), SHEETS[-1], 3, 3),
                        lambda thing: rings.is_ring(thing, SHEETS[-1]),
                        lambda thing: rings.ring_bound(thing, SHEETS[-1]),
                        lambda thing: rings.ring_bound((thing, thing), SHEETS[-1]),
                        lambda thing: empties.is_empty_ring(thing, SHEETS[-1]),
                        lambda thing: signs.are_signs(5, thing),
                        lambda thing: signs.is_ring_by_signs(thing, 3, (1,)),
                        lambda thing: self.assertRaises(ValueError, signs.cup_by_signs, 5, thing),
                        lambda thing: self.assertRaises(ValueError, peels.layer, SHEETS[-1], [thing]),
                        lambda thing: self.assertRaises(ValueError, desk.Desk().say, thing),
                        lambda thing: self.assertRaises(ValueError, sheets.sheet_of, thing)):
                ask(thing)
                self.assertEqual(repr(thing), repr(kept))

    def test_papers_stay(self):
        for sheet in SHEETS:
            paper = rows.cup_table(sheet)
            kept = list(paper.items())
            rows.is_cup_paper(paper, sheet)
            rows.is_cap_paper(paper, sheet)
            self.assertEqual(list(paper.items()), kept)

    def test_bars_and_ring_papers_stay(self):
        for sheet in SHEETS:
            bar = (rows.cup_table(sheet), rows.cap_table(sheet))
            told = rings.ring_paper(sheet)
            kept = repr((bar, told))
            bothways.is_bar(bar, sheet, 3, 4)
            bothways.is_bar(bar, sheet, 9, 9)
            rings.ring_bound(told, sheet)
            rings.ring_bound(told[::-1], sheet)
            self.assertEqual(repr((bar, told)), kept)

    def test_the_same_asked_again(self):
        for sheet in SHEETS + LARGE:
            first = answers(sheet)
            kept = copy.deepcopy(first)
            self.assertEqual(answers(tuple(list(sheet))), kept)
            self.assertEqual(first, kept)

    def test_the_same_numbers_asked_again(self):
        self.assertEqual(told_of_numbers(), told_of_numbers())

    def test_told_lists_and_dicts_are_the_askers_own(self):
        for sheet in SHEETS:
            kept = answers(sheet)
            for ask in LISTS_AND_DICTS + (MORE_LISTS_AND_DICTS if len(sheet) > 2 else []):
                told = ask(sheet)
                fresh = copy.deepcopy(told)
                self.spoil(told)
                again = ask(sheet)
                self.assertIsNot(again, told)
                self.assertEqual(again, fresh)
            self.assertEqual(answers(sheet), kept)

    def test_the_parts_of_one_answer_are_unlike(self):
        for sheet in SHEETS:
            for told in (bothways.cup_or_cap(sheet, 9, 9)[1], rings.ring_paper(sheet)):
                fresh = copy.deepcopy(told[1])
                self.spoil(told[0])
                self.assertEqual(told[1], fresh)

    def test_told_all_signs_are_the_askers_own(self):
        for many in range(1, 6):
            fresh = signs.all_signs(many)
            self.spoil(signs.all_signs(many))
            self.assertEqual(signs.all_signs(many), fresh)

    def spoil(self, told):
        told.clear()
        if isinstance(told, dict):
            told["mine"] = 1
        else:
            told.append("mine")


class WhateverSizeTest(unittest.TestCase):
    """[3]: what was told may be handed in again, whatever its size."""

    def test_told_sheets(self):
        told = [drawings.drawing(5, 5), drawings.drawing(4, 7), drawings.ringless(6), sheets.sheared(LARGE[1], BIG)]
        told.append(drawings.set_beside(sheets.sheared(LARGE[1][:12], BIG), sheets.from_behind(LARGE[1][:12])))
        for sheet in told:
            self.assertEqual(texts.read_sheet(texts.show_sheet(sheet)), sheet)
            self.assertEqual(len(ties.crossings(sheet)), rings.rings_many(sheet, 4))
            self.assertIs(signs.are_signs(len(sheet), signs.signs_of(sheet)), True)
            self.assertEqual(signs.cup_by_signs(len(sheet), signs.signs_of(sheet)), rows.longest_cup(sheet))
            self.assertEqual(peels.peels(sheet)[0], rings.outer_ring(sheet))
            for place in (0, 5, len(sheet) - 1):
                for by in peels.leeway(sheet, place):
                    if by is not None:
                        moved = peels.lifted(sheet, place, by)
                        self.assertEqual(signs.signs_of(moved), signs.signs_of(sheet))
                        self.assertEqual(peels.turned_otherwise(moved, sheet), [])


class SameTurnsTest(unittest.TestCase):
    """[6]: what is told of turns alone is the same for each sheet that has them."""

    def test_sheets_with_the_same_signs(self):
        found = {}
        for seed in range(150):
            sheet = made_sheet(5, 9, seed)
            found.setdefault(signs.signs_of(sheet), []).append(sheet)
        alike = [group for group in found.values() if len(group) > 1]
        self.assertGreater(len(alike), 10)
        for group in alike:
            first = self.told_of_turns(group[0])
            for sheet in group[1:]:
                self.assertEqual(self.told_of_turns(sheet), first)
                self.assertEqual(peels.turned_otherwise(group[0], sheet), [])

    def told_of_turns(self, sheet):
        places = range(len(sheet))
        every = [row for many in places for row in combinations(places, many + 1)]
        told = [[ask(row, sheet) for row in every] for ask in
                (rows.is_cup, rows.is_cap, rings.is_ring, empties.is_empty_ring)]
        told += [ask(sheet) for ask in
                 (sheets.all_turns, rows.cup_table, rows.cap_table, rows.longest_cup, rows.longest_cap,
                  rings.outer_ring, rings.ring_paper, ties.crossings, ties.halving, peels.peels)]
        told += [[ties.sides(sheet, i, j) for i, j in combinations(places, 2)]]
        told += [[ask(sheet, many) for many in (3, 4, 5)] for ask in
                 (bothways.cup_ends, bothways.cap_starts, rings.rings_many, empties.empties_many, ties.depths_many)]
        return told + [[drawings.lacks(sheet, k, l) for k, l in product(range(2, 7), repeat=2)]]

    def test_signs_tell_what_the_sheet_tells(self):
        for sheet in [sheet for sheet in SHEETS if len(sheet) < 5]:
            made = signs.sheet_by_signs(len(sheet), signs.signs_of(sheet))
            self.assertEqual(sheets.all_turns(made), sheets.all_turns(sheet))
            self.assertEqual(rows.longest_cup(made), rows.longest_cup(sheet))
            self.assertEqual(rings.greatest_ring(made), rings.greatest_ring(sheet))


class WhatFollowsTest(unittest.TestCase):
    """[45], [54], [64], with what is told of signs, ties, peels and desks."""

    def test_parts_of_rings_by_signs(self):
        for sheet in SHEETS + [NESTED]:
            row = signs.signs_of(sheet)
            ring = rings.greatest_ring(sheet) or ()
            for many in range(3, len(ring) + 1):
                for part in combinations(ring, many):
                    self.assertIs(signs.is_ring_by_signs(part, len(sheet), row), True)

    def test_moved_sheets(self):
        for sheet in SHEETS + TWELVE[:2] + LARGE[:1]:
            for moved in (sheets.sheared(sheet, -3), sheets.turned_over(sheet), sheets.from_behind(sheet)):
                self.assertEqual(len(ties.crossings(moved)), rings.rings_many(sheet, 4))
                self.assertEqual([len(peel) for peel in peels.peels(moved)], [len(peel) for peel in peels.peels(sheet)])
                self.assertEqual(len(ties.halving(moved)), len(ties.halving(sheet)))

    def test_lifted_sheets_have_their_empty_rings_too(self):
        for sheet in [sheet for sheet in SHEETS if len(sheet) > 2]:
            for by in (peels.leeway(sheet, 1)[0] or 0, peels.leeway(sheet, 1)[1] or 0):
                moved = peels.lifted(sheet, 1, by)
                counts = [empties.empties_many(moved, many) for many in range(3, 9)]
                self.assertEqual(sum((-1) ** at * count for at, count in enumerate(counts)), comb(len(sheet) - 1, 2))
                self.assertEqual(counts, [empties.empties_many(sheet, many) for many in range(3, 9)])

    def test_a_drawing_and_a_point_more_on_a_desk(self):
        tried = 0
        for k, l in product(range(2, 6), repeat=2):
            if bothways.room(k, l) > 20:
                continue
            sheet = tuple((7 * x, 7 * y) for x, y in drawings.drawing(k, l))
            kept = desk.Desk()
            for x, y in sheet:
                kept.say(f"point {x} {y}")
            self.assertEqual(kept.say(f"lacks {k} {l}"), "yes")
            for point in [(-5, 3), (5, 2), (7 * len(sheet) + 8, -9), (11, 400)]:
                if not any(on_line(p, q, point) for p, q in combinations(sheet, 2)):
                    tried += 1
                    kept.say(f"point {point[0]} {point[1]}")
                    self.assertEqual(kept.say(f"lacks {k} {l}"), "no")
                    kept.say("back")
        self.assertGreater(tried, 30)

    def test_signs_of_two_beside_one_another(self):
        for one, other in product(SHEETS[::5], SHEETS[::4]):
            told = drawings.set_beside(one, other)
            row = signs.signs_of(told)
            cup = len(signs.cup_by_signs(len(told), row))
            self.assertEqual(cup, max(len(rows.longest_cup(other) or (0,)), len(rows.longest_cup(one) or (0,)) + 1))
            over = tuple(-sign for sign in row)
            cap = len(signs.cup_by_signs(len(told), over))
            self.assertEqual(cap, max(len(rows.longest_cap(one) or (0,)), len(rows.longest_cap(other) or (0,)) + 1))


if __name__ == "__main__":
    unittest.main()
