"""A desk: it keeps points, is told lines, and answers with texts."""

from bentrows.drawings import lacks
from bentrows.errors import Bare, NoLine, NoPlace
from bentrows.kinds import check_few
from bentrows.peels import lifted, peels
from bentrows.rings import LEAST_CORNERS, greatest_ring, outer_ring
from bentrows.rows import longest_cap, longest_cup
from bentrows.sheets import MOST_POINTS, sheet_of
from bentrows.texts import read_number, show_sheet
from bentrows.ties import crossings, halving

MOST_FIGURES = 30
LACKS_FIGURES = ("2", "3", "4", "5", "6", "7", "8", "9")
# Each line's first word, and how many numbers are told behind it.
NUMBERS_BEHIND = {
    "point": 2, "take": 1, "lift": 2, "back": 0, "sheet": 0, "cup": 0, "cap": 0, "ring": 0, "outer": 0, "peels": 0,
    "cross": 0, "halving": 0, "lacks": 2,
}
OK = "ok"
NONE = "none"


def read_desk_number(word):
    if len(word[1:] if word.startswith("-") else word) > MOST_FIGURES:
        return None
    return read_number(word)


def read_figure(word):
    return int(word) if word in LACKS_FIGURES else None


def read_word(name, word):
    return read_figure(word) if name == "lacks" else read_desk_number(word)


def read_line(line):
    if not isinstance(line, str):
        raise NoLine("this is no text")
    words = line.split(" ")
    name = words[0]
    numbers = [read_word(name, word) for word in words[1:]]
    if NUMBERS_BEHIND.get(name) != len(numbers) or None in numbers:
        raise NoLine("this is none of the desk's lines")
    return (name, numbers)


def put_point(points, x, y):
    check_few(len(points) + 1, MOST_POINTS)
    if x in [point[0] for point in points]:
        raise NoPlace("there is a point with this x")
    return sheet_of(list(points) + [(x, y)])


def place_with(points, x):
    # Asked ahead of index, whose own refusal is none of the program's.
    across = [point[0] for point in points]
    if x not in across:
        raise NoPlace("there is no point with this x")
    return across.index(x)


def take_point(points, x):
    place = place_with(points, x)
    return points[:place] + points[place + 1:]


def lift_point(points, x, by):
    return lifted(points, place_with(points, x), by)


def show_places(places):
    if places is None:
        return NONE
    return " ".join([str(place) for place in places])


def tell_cup(sheet):
    return show_places(longest_cup(sheet))


def tell_cap(sheet):
    return show_places(longest_cap(sheet))


def tell_ring(sheet):
    ring = greatest_ring(sheet)
    return NONE if ring is None else str(len(ring))


def tell_outer(sheet):
    return show_places(outer_ring(sheet) if len(sheet) >= LEAST_CORNERS else None)


def tell_peels(sheet):
    return str(len(peels(sheet)))


def tell_cross(sheet):
    return str(len(crossings(sheet)))


def tell_halving(sheet):
    return str(len(halving(sheet)))


ANSWERS = {
    "cup": tell_cup, "cap": tell_cap, "ring": tell_ring, "outer": tell_outer, "peels": tell_peels,
    "cross": tell_cross, "halving": tell_halving,
}


def tell(points, name, numbers):
    if name == "sheet":
        return show_sheet(points) if len(points) > 0 else NONE
    if len(points) == 0:
        raise Bare("there are no points")
    if name == "lacks":
        return "yes" if lacks(points, numbers[0], numbers[1]) else "no"
    answer = ANSWERS[name]
    return answer(points)


class Desk:
    def __init__(self):
        # Without points these are (), which is no sheet.
        self.points = ()
        self.earlier = []

    def change_to(self, points):
        self.earlier.append(self.points)
        self.points = points

    def step_back(self):
        if len(self.earlier) == 0:
            raise Bare("there is nothing to be undone")
        self.points = self.earlier.pop()

    def say(self, line):
        told = read_line(line)
        name = told[0]
        numbers = told[1]
        if name == "point":
            self.change_to(put_point(self.points, numbers[0], numbers[1]))
            return str(len(self.points))
        if name == "take":
            self.change_to(take_point(self.points, numbers[0]))
            return str(len(self.points))
        if name == "lift":
            self.change_to(lift_point(self.points, numbers[0], numbers[1]))
            return OK
        if name == "back":
            self.step_back()
            return OK
        return tell(self.points, name, numbers)
