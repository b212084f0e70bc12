import random
import unittest
from itertools import combinations

from bentrows.desk import Desk
from bentrows.drawings import drawing, lacks
from bentrows.errors import Bare, BentError, NoLine, NoPlace, OnLine, TooMany
from bentrows.peels import peels
from bentrows.rows import longest_cap, longest_cup
from bentrows.sheets import is_sheet
from bentrows.ties import crossings, halving
from samples import (BIG, DOWN_PARABOLA, LARGE, NESTED, SHEETS, THINGS, TWELVE, UP_PARABOLA, all_rings, all_rows,
                     made_sheet, on_line)

NINES = "9" * 30
ASKS = ["cup", "cap", "ring", "outer", "peels", "cross", "halving", "lacks 2 2", "lacks 3 4", "lacks 9 9"]
NO_NUMBERS = ["", "-", "+1", "--1", "1-", "-0", "00", "01", "-01", "007", "1.0", "1e3", "0x1", "1_0", "a", "X", "\t1",
              "1\n", "\n", "1,", "1,1", "None", "True", NINES + "9", "-" + NINES + "9", "1" + "0" * 30, "0" * 31]
NO_FIGURES = NO_NUMBERS + ["0", "1", "10", "11", "12", "22", "99", "23", "-2", "-3", "02", "2.", "K", "23456789"]
NO_LINES = [
    "", " ", "  ", "\n", "a", "point", "point 1", "point 1 2 3", "points 1 2", "take", "take 1 2", "lift", "lift 1",
    "lift 1 2 3", "back 1", "backs", "sheet 1", "sheets", "cup 1", "cup 3", "cap 0", "ring 3", "outer 0", "peels 1",
    "cross 1", "halving 1", "lacks", "lacks 3", "lacks 3 3 3", "lack 3 3", "none", "ok", "yes", "0", "1 2", "point 1,2",
    "Point 1 2", "POINT 1 2", "Take 1", "Lift 1 2", "Back", "BACK", "Sheet", "Cup", "caP", "RING", "Outer", "Peels",
    "Cross", "Halving", "Lacks 3 3", "lacks 3 K", "point X Y", "back back", "cup cap", "desk", "say", "point\t1 2",
    "point\n1 2", "cup\n", "\ncup", "cup\t", "'cup'", "cupcap", "cu", "p", "peel",
]
RIGHT = ["point 1 2", "take 1", "lift 1 2", "back", "sheet", "lacks 3 3"] + ASKS[:7]


def desk_of(sheet):
    desk = Desk()
    for x, y in sheet:
        desk.say(f"point {x} {y}")
    return desk


def text_of(points):
    return " ".join(f"{x},{y}" for x, y in sorted(points)) or "none"


def spoken(places):
    return "none" if places is None else " ".join(str(place) for place in places)


class ChangesTest(unittest.TestCase):
    """[101]: points put, taken, lifted, and back."""

    def check_says(self, desk, lines):
        for line, answer in lines:
            self.assertEqual(desk.say(line), answer, line)

    def test_points_put_in_whatever_order(self):
        desk = Desk()
        self.check_says(desk, [("point 3 -2", "1"), ("point 0 0", "2"), ("sheet", "0,0 3,-2"), ("point 1 5", "3"),
                               ("sheet", "0,0 1,5 3,-2"), ("point -10 7", "4"), ("sheet", "-10,7 0,0 1,5 3,-2")])

    def test_thirty_figures(self):
        desk = Desk()
        self.check_says(desk, [(f"point {NINES} -{NINES}", "1"), (f"point -{NINES} {NINES}", "2"),
                               ("sheet", f"-{NINES},{NINES} {NINES},-{NINES}"), (f"lift {NINES} {NINES}", "ok"),
                               ("sheet", f"-{NINES},{NINES} {NINES},0"), (f"take -{NINES}", "1"),
                               ("sheet", f"{NINES},0")])

    def test_lifted_beyond_thirty_figures(self):
        desk = desk_of([(0, 0)])
        for turn in range(30):
            self.assertEqual(desk.say(f"lift 0 {NINES}"), "ok")
        self.assertEqual(desk.say("sheet"), f"0,{30 * BIG}")

    def test_taken(self):
        desk = desk_of([(0, 0), (1, 5), (3, -2)])
        self.check_says(desk, [("take 1", "2"), ("sheet", "0,0 3,-2"), ("take 0", "1"), ("take 3", "0"),
                               ("sheet", "none"), ("point 1 1", "1"), ("sheet", "1,1")])

    def test_lifted(self):
        desk = desk_of([(0, 0), (1, 5), (3, -2)])
        self.check_says(desk, [("lift 1 -3", "ok"), ("sheet", "0,0 1,2 3,-2"), ("lift 3 0", "ok"),
                               ("sheet", "0,0 1,2 3,-2"), ("lift 0 12", "ok"), ("sheet", "0,12 1,2 3,-2")])

    def test_the_twenty_fifth_point(self):
        desk = desk_of(UP_PARABOLA)
        before = desk.say("sheet")
        self.assertEqual(before, text_of(UP_PARABOLA))
        # Ahead of a point with this x, and of three on one line.
        for line in ("point 50 0", "point 0 0", "point 0 7", "point 13 -1", "point 12 144", "point 100 -1000"):
            self.assertRaises(TooMany, desk.say, line)
            self.assertEqual(desk.say("sheet"), before)
        self.check_says(desk, [("take 0", "23"), ("point 12 144", "24")])
        self.assertRaises(TooMany, desk.say, "point 0 0")

    def test_each_number_is_answered(self):
        desk = Desk()
        for many, (x, y) in enumerate(LARGE[0], start=1):
            self.assertEqual(desk.say(f"point {x} {y}"), str(many))
        for many, (x, y) in enumerate(LARGE[0], start=1):
            self.assertEqual(desk.say(f"take {x}"), str(24 - many))

    def test_one_x_twice(self):
        desk = desk_of([(0, 0), (1, 1), (5, 9)])
        for line in ("point 0 0", "point 0 1", "point 1 -7", "point 5 5"):
            self.assertRaises(NoPlace, desk.say, line)
        # On the line through two others as well.
        self.assertRaises(NoPlace, desk.say, "point 5 5")
        self.assertEqual(desk.say("sheet"), "0,0 1,1 5,9")

    def refused_three(self, desk, line):
        with self.assertRaises(OnLine) as caught:
            desk.say(line)
        return caught.exception.three

    def test_three_on_one_line(self):
        desk = desk_of([(4, 4), (0, 0), (6, 0)])
        before = desk.say("sheet")
        self.assertEqual(self.refused_three(desk, "point 2 2"), ((0, 0), (2, 2), (4, 4)))
        self.assertEqual(self.refused_three(desk, "point 5 2"), ((4, 4), (5, 2), (6, 0)))
        self.assertEqual(self.refused_three(desk, "point -9 0"), ((-9, 0), (0, 0), (6, 0)))
        self.assertEqual(self.refused_three(desk, "lift 4 -4"), ((0, 0), (4, 0), (6, 0)))
        self.assertEqual(self.refused_three(desk, "lift 6 6"), ((0, 0), (4, 4), (6, 6)))
        self.assertEqual(desk.say("sheet"), before)

    def test_the_first_three_on_one_line(self):
        desk = desk_of([(0, 0), (1, 1), (3, -1), (4, 20)])
        self.assertEqual(self.refused_three(desk, "point 2 2"), ((0, 0), (1, 1), (2, 2)))
        self.assertEqual(desk.say("point 2 -40"), "5")
        self.assertEqual(self.refused_three(desk, "lift 2 40"), ((1, 1), (2, 0), (3, -1)))

    def test_nothing_there_to_take_or_lift(self):
        for desk in (Desk(), desk_of([(0, 0), (1, 1), (5, 9)])):
            before = desk.say("sheet")
            for x in (2, -1, 9, BIG):
                self.assertRaises(NoPlace, desk.say, f"take {x}")
                self.assertRaises(NoPlace, desk.say, f"lift {x} 0")
                self.assertRaises(NoPlace, desk.say, f"lift {x} 5")
            self.assertEqual(desk.say("sheet"), before)

    def test_back_over_each_kind(self):
        desk = Desk()
        self.check_says(desk, [
            ("point 0 0", "1"), ("point 2 7", "2"), ("lift 2 -3", "ok"), ("sheet", "0,0 2,4"), ("take 0", "1"),
            ("sheet", "2,4"), ("back", "ok"), ("sheet", "0,0 2,4"), ("back", "ok"), ("sheet", "0,0 2,7"),
            ("back", "ok"), ("sheet", "0,0"), ("back", "ok"), ("sheet", "none")])
        self.assertRaises(Bare, desk.say, "back")
        self.assertEqual(desk.say("sheet"), "none")

    def test_back_then_on(self):
        desk = Desk()
        self.check_says(desk, [
            ("point 0 0", "1"), ("point 2 7", "2"), ("back", "ok"), ("point 3 1", "2"), ("take 0", "1"), ("back", "ok"),
            ("lift 3 5", "ok"), ("back", "ok"), ("back", "ok"), ("sheet", "0,0"), ("point 3 8", "2"),
            ("sheet", "0,0 3,8"), ("back", "ok"), ("back", "ok"), ("sheet", "none")])
        self.assertRaises(Bare, desk.say, "back")

    def test_lifted_by_nought_stands_too(self):
        desk = Desk()
        self.check_says(desk, [("point 0 0", "1"), ("lift 0 0", "ok"), ("back", "ok"), ("sheet", "0,0"),
                               ("back", "ok"), ("sheet", "none")])

    def test_nothing_to_undo(self):
        desk = Desk()
        self.assertRaises(Bare, desk.say, "back")
        self.assertRaises(NoPlace, desk.say, "take 1")
        self.assertRaises(Bare, desk.say, "back")
        self.assertEqual(desk.say("sheet"), "none")
        self.assertRaises(Bare, desk.say, "back")

    def test_what_is_refused_or_asked_is_not_undone(self):
        desk = desk_of([(0, 0), (1, 1), (5, 9)])
        for line in ("point 2 2", "point 0 3", "take 7", "lift 7 1", "lift 5 -4", "lacks 1 1", "Back", 5, None):
            self.assertRaises(BentError, desk.say, line)
        for line in ASKS + ["sheet"]:
            desk.say(line)
        self.check_says(desk, [("back", "ok"), ("sheet", "0,0 1,1")])

    def test_back_from_24_points(self):
        desk = desk_of(LARGE[0])
        self.assertRaises(TooMany, desk.say, "point 100000 1")
        for many in range(23, -1, -1):
            self.assertEqual(desk.say("back"), "ok")
            self.assertEqual(desk.say("sheet"), text_of(LARGE[0][:many]))
        self.assertRaises(Bare, desk.say, "back")


class AsksTest(unittest.TestCase):
    """[101]: what is asked of the points."""

    def test_a_small_sheet(self):
        desk = desk_of([(0, 0), (1, 5), (3, -2), (6, 1)])
        asked = [("sheet", "0,0 1,5 3,-2 6,1"), ("cup", "0 2 3"), ("cap", "0 1 2"), ("ring", "4"),
                 ("outer", "0 1 2 3"), ("peels", "1"), ("cross", "1"), ("halving", "2"), ("lacks 4 4", "yes"),
                 ("lacks 4 3", "no"), ("lacks 3 4", "no"), ("lacks 9 9", "yes"), ("lacks 2 2", "no")]
        for line, answer in asked:
            self.assertEqual(desk.say(line), answer)

    def test_each_sheet(self):
        for sheet in SHEETS + [NESTED, TWELVE[0]]:
            desk = desk_of(sheet)
            rings = all_rings(sheet)
            cups, caps = [all_rows(sheet, up) for up in (True, False)]
            for line, rows in (("cup", cups), ("cap", caps)):
                first = min(rows, key=lambda row: (-len(row), row)) if rows else None
                self.assertEqual(desk.say(line), spoken(first))
            self.assertEqual(desk.say("ring"), str(max(len(ring) for ring in rings)) if rings else "none")
            self.assertEqual(desk.say("outer"), spoken(peels(sheet)[0] if rings else None))
            self.assertEqual(desk.say("peels"), str(len(peels(sheet))))
            self.assertEqual(desk.say("cross"), str(len([ring for ring in rings if len(ring) == 4])))
            self.assertEqual(desk.say("halving"), str(len(halving(sheet))))
            for k in range(2, 10):
                for l in range(2, 10):
                    none = max(map(len, cups), default=1) < k and max(map(len, caps), default=1) < l
                    self.assertEqual(desk.say(f"lacks {k} {l}"), "yes" if none else "no")

    def test_24_points(self):
        for sheet in LARGE:
            desk = desk_of(sheet)
            self.assertEqual(desk.say("sheet"), text_of(sheet))
            self.assertEqual(desk.say("cup"), spoken(longest_cup(sheet)))
            self.assertEqual(desk.say("cap"), spoken(longest_cap(sheet)))
            self.assertEqual(desk.say("cross"), str(len(crossings(sheet))))
            self.assertEqual(desk.say("outer"), spoken(peels(sheet)[0]))
            self.assertEqual(desk.say("lacks 5 6"), "yes" if lacks(sheet, 5, 6) else "no")
        self.assertEqual(desk_of(DOWN_PARABOLA).say("ring"), "24")
        self.assertEqual(desk_of(DOWN_PARABOLA).say("cap"), " ".join(str(place) for place in range(24)))

    def test_a_drawing(self):
        desk = desk_of(drawing(4, 4))
        self.assertEqual([desk.say(line) for line in ("lacks 4 4", "lacks 3 4", "lacks 4 3")], ["yes", "no", "no"])

    def test_one_point(self):
        desk = desk_of([(-7, 0)])
        asked = [("sheet", "-7,0"), ("cup", "none"), ("cap", "none"), ("ring", "none"), ("outer", "none"),
                 ("peels", "1"), ("cross", "0"), ("halving", "0"), ("lacks 2 2", "yes"), ("lacks 9 9", "yes")]
        for line, answer in asked:
            self.assertEqual(desk.say(line), answer)

    def test_two_and_three_points(self):
        desk = desk_of([(0, 0), (1, 5)])
        asked = [("cup", "0 1"), ("cap", "0 1"), ("ring", "none"), ("outer", "none"), ("peels", "1"), ("cross", "0"),
                 ("halving", "1"), ("lacks 2 3", "no"), ("lacks 3 2", "no"), ("lacks 3 3", "yes")]
        for line, answer in asked + [("point 2 3", "3")]:
            self.assertEqual(desk.say(line), answer)
        asked = [("cup", "0 1"), ("cap", "0 1 2"), ("ring", "3"), ("outer", "0 1 2"), ("halving", "3")]
        for line, answer in asked:
            self.assertEqual(desk.say(line), answer)

    def test_without_points(self):
        emptied = desk_of([(0, 0), (1, 5)])
        emptied.say("take 0")
        emptied.say("take 1")
        undone = desk_of([(0, 0)])
        undone.say("back")
        for desk in (Desk(), emptied, undone):
            self.assertEqual(desk.say("sheet"), "none")
            for line in ASKS:
                self.assertRaises(Bare, desk.say, line)
            self.assertEqual(desk.say("sheet"), "none")
            self.assertEqual(desk.say("point 4 4"), "1")

    def test_answers_are_texts(self):
        desk = desk_of(NESTED)
        for line in ASKS + ["sheet", "lift 5 1", "point 1000 1", "take 1000", "back"]:
            self.assertIs(type(desk.say(line)), str)


class NoLineTest(unittest.TestCase):
    """[102]: what is no line."""

    def check_none(self, line):
        for desk in (Desk(), desk_of([(1, 2), (2, 2), (5, 9)]), desk_of(UP_PARABOLA)):
            before = desk.say("sheet")
            self.assertRaises(NoLine, desk.say, line)
            self.assertEqual(desk.say("sheet"), before)

    def test_texts(self):
        for line in NO_LINES:
            self.check_none(line)

    def test_things_of_whatever_kind(self):
        for thing in THINGS + [["cup"], ("cup",), {"cup": 1}, ["point", "1", "2"], ("point", 1, 2)]:
            self.check_none(thing)

    def test_other_blanks(self):
        for line in RIGHT:
            for wrong in (" " + line, line + " ", "  " + line, line + "\n", "\t" + line, line + "\t", line + " 1",
                          line + "  ", line.upper(), line.capitalize(), line + "s"):
                self.check_none(wrong)
            if " " in line:
                for blank in ("  ", "\t", "\n", ",", "", " \t", "_"):
                    self.check_none(line.replace(" ", blank, 1))

    def test_numbers_not_written_so(self):
        for word in NO_NUMBERS:
            for line in (f"point {word} 1", f"point 1 {word}", f"take {word}", f"lift {word} 1", f"lift 1 {word}",
                         f"point {word} {word}"):
                self.check_none(line)

    def test_figures_from_2_to_9(self):
        for word in NO_FIGURES:
            for line in (f"lacks {word} 3", f"lacks 3 {word}", f"lacks {word} {word}"):
                self.check_none(line)

    def test_ahead_of_all_else(self):
        desk = Desk()
        for line in ("lacks 1 3", "cup 1", "back 1", "take 01", "lift 5 -0"):
            self.assertRaises(NoLine, desk.say, line)
        desk = desk_of(UP_PARABOLA)
        for line in ("point 0 00", "point 50 +1", "take 500 1", f"lift 500 {NINES}9"):
            self.assertRaises(NoLine, desk.say, line)

    def test_long_texts(self):
        for line in ("a" * 2000, "1 " * 1000, "cup " * 500, " " * 2000, "point 1 " + "1" * 1900):
            self.check_none(line)

    def test_noughts_and_thirty_figures_are_lines(self):
        desk = Desk()
        self.assertEqual(desk.say("point 0 0"), "1")
        self.assertEqual(desk.say("point -1 -10"), "2")
        self.assertEqual(desk.say(f"point {'1' * 30} -{'1' * 30}"), "3")
        self.assertEqual(desk.say(f"take {'1' * 30}"), "2")


class DesksTest(unittest.TestCase):
    """[102], [4]: desks by themselves."""

    def test_two_desks_have_nothing_in_common(self):
        one, other = Desk(), Desk()
        one.say("point 0 0")
        self.assertEqual(other.say("sheet"), "none")
        self.assertRaises(Bare, other.say, "back")
        other.say("point 0 9")
        other.say("point 3 9")
        self.assertEqual(one.say("sheet"), "0,0")
        one.say("back")
        self.assertEqual(other.say("sheet"), "0,9 3,9")
        other.say("back")
        self.assertRaises(Bare, one.say, "back")
        self.assertEqual(other.say("sheet"), "0,9")
        self.assertEqual(Desk().say("sheet"), "none")

    def test_the_same_asked_again(self):
        for sheet in SHEETS[::3] + LARGE[:1]:
            desk = desk_of(sheet)
            first = [desk.say(line) for line in ASKS + ["sheet"]]
            self.assertEqual([desk.say(line) for line in ASKS + ["sheet"]], first)
            self.assertEqual([desk_of(reversed(sheet)).say(line) for line in ASKS + ["sheet"]], first)

    def plain_change(self, points, words):
        """The points as a line changes them, or the class of its refusal."""
        x = words[1]
        across = [point[0] for point in points]
        if words[0] == "point":
            if len(points) == 24:
                return TooMany
            if x in across:
                return NoPlace
            changed = points + [(x, words[2])]
        else:
            if x not in across:
                return NoPlace
            y = dict(points)[x] + words[-1]
            changed = [point for point in points if point[0] != x] + ([(x, y)] if words[0] == "lift" else [])
        if any(on_line(*three) for three in combinations(sorted(changed), 3)):
            return OnLine
        return changed

    def test_many_lines(self):
        met = {}
        for seed in range(6):
            source = random.Random(seed)
            desk = desk_of(made_sheet(20, 60, seed)) if seed % 2 else Desk()
            states = [list(made_sheet(20, 60, seed))[:many] for many in range(21)] if seed % 2 else [[]]
            for step in range(150):
                name = source.choice(["point"] * 5 + ["take", "lift", "lift", "back", "back"])
                size = source.choice([3, 9, 60])
                words = [name] + [source.randint(-size, size) for number in range({"take": 1, "back": 0}.get(name, 2))]
                line = " ".join(str(word) for word in words)
                if name == "back":
                    refused = Bare if len(states) == 1 else None
                    states = states[:-1] if len(states) > 1 else states
                    answer = "ok"
                else:
                    changed = self.plain_change(states[-1], words)
                    refused = None if isinstance(changed, list) else changed
                    states = states + [changed] if refused is None else states
                    answer = "ok" if name == "lift" else str(len(states[-1]))
                met[(name, refused)] = True
                if refused is None:
                    self.assertEqual(desk.say(line), answer)
                else:
                    self.assertRaises(refused, desk.say, line)
                self.assertEqual(desk.say("sheet"), text_of(states[-1]))
        for name, refused in (("point", TooMany), ("point", NoPlace), ("point", OnLine), ("take", NoPlace),
                              ("lift", NoPlace), ("lift", OnLine), ("back", Bare), ("point", None), ("take", None),
                              ("lift", None), ("back", None)):
            self.assertIn((name, refused), met)

    def test_what_is_kept_is_a_sheet(self):
        desk = desk_of(LARGE[1])
        kept = tuple(tuple(int(number) for number in word.split(",")) for word in desk.say("sheet").split(" "))
        self.assertIs(is_sheet(kept), True)
        self.assertEqual(kept, LARGE[1])


if __name__ == "__main__":
    unittest.main()
