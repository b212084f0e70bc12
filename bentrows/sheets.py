"""Sheets: points from left to right, no three on one line, and how each three of them turn."""

from bentrows.errors import Bare, NoPlace, NoSheet, OnLine
from bentrows.kinds import are_rising_places, check_place, check_whole, is_point

MOST_POINTS = 24


def are_points(things):
    return 1 <= len(things) <= MOST_POINTS and all([is_point(thing) for thing in things])


def has_rising_x(points):
    return all([points[at][0] < points[at + 1][0] for at in range(len(points) - 1)])


def bend(first, second, third):
    # Multiplied out, not divided: 0 just where the three lie on one line, above 0 where they turn up.
    run = (second[0] - first[0]) * (third[1] - first[1])
    return run - (second[1] - first[1]) * (third[0] - first[0])


def threes(many):
    found = []
    for i in range(many):
        for j in range(i + 1, many):
            found.extend([(i, j, k) for k in range(j + 1, many)])
    return found


def fours(many):
    found = []
    for three in threes(many):
        found.extend([three + (last,) for last in range(three[2] + 1, many)])
    return found


def first_on_line(points):
    for three in threes(len(points)):
        found = tuple([points[place] for place in three])
        if bend(found[0], found[1], found[2]) == 0:
            return found
    return None


def is_sheet(thing):
    if not isinstance(thing, tuple) or not are_points(thing):
        return False
    return has_rising_x(thing) and first_on_line(thing) is None


def check_sheet(thing):
    if not is_sheet(thing):
        raise NoSheet("this is no sheet")


def sheet_of(points):
    if not isinstance(points, list) or not are_points(points):
        raise NoSheet("this is no list of 1 to 24 points")
    sheet = tuple(sorted(points))
    if not has_rising_x(sheet):
        raise NoSheet("two points have one x")
    three = first_on_line(sheet)
    if three is not None:
        raise OnLine(three)
    return sheet


def turn_at(sheet, three):
    return 1 if bend(sheet[three[0]], sheet[three[1]], sheet[three[2]]) > 0 else -1


def turn(sheet, i, j, k):
    check_sheet(sheet)
    three = (i, j, k)
    if not are_rising_places(three, len(sheet)):
        raise NoPlace("these are no three rising places of the sheet")
    return turn_at(sheet, three)


def all_turns(sheet):
    check_sheet(sheet)
    turns = {}
    for three in threes(len(sheet)):
        turns[three] = turn_at(sheet, three)
    return turns


def turned_over(sheet):
    check_sheet(sheet)
    return tuple([(point[0], -point[1]) for point in sheet])


def from_behind(sheet):
    check_sheet(sheet)
    return tuple([(-point[0], point[1]) for point in reversed(sheet)])


def sheared(sheet, by):
    check_sheet(sheet)
    check_whole(by)
    return tuple([(point[0], point[1] + by * point[0]) for point in sheet])


def without(sheet, place):
    check_sheet(sheet)
    check_place(place, len(sheet))
    if len(sheet) == 1:
        raise Bare("there is no other point")
    return sheet[:place] + sheet[place + 1:]
