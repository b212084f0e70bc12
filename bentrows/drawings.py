"""Drawings: sheets that lack long cups and caps, or great rings, and have as many points as they can."""

from bentrows.bothways import LEAST_PLACES, cup_or_cap, room
from bentrows.kinds import check_few, check_number
from bentrows.rings import LEAST_CORNERS
from bentrows.sheets import MOST_POINTS, check_sheet

MOST_FOR_RINGLESS = 6


def steepness(sheet):
    # Neighbours lie 1 or more apart, so no line through two points rises or falls by more than this for each step.
    return max([abs(sheet[at + 1][1] - sheet[at][1]) for at in range(len(sheet) - 1)], default=0)


def width(sheet):
    return sheet[-1][0] - sheet[0][0]


def set_beside(one, other):
    check_sheet(one)
    check_sheet(other)
    check_few(len(one) + len(other), MOST_POINTS)
    aside = one[-1][0] + 1 - other[0][0]
    # So high that no line through two points of either, led on to the other's side, comes between the two sheets.
    steps = width(one) + 1 + width(other)
    over = max(steepness(one), steepness(other)) * steps + 1
    lift = max([point[1] for point in one]) + over - min([point[1] for point in other])
    return one + tuple([(point[0] + aside, point[1] + lift) for point in other])


def lacks(sheet, k, l):
    return cup_or_cap(sheet, k, l)[0] == "none"


def drawing(k, l):
    check_few(room(k, l), MOST_POINTS)
    if k == LEAST_PLACES or l == LEAST_PLACES:
        return ((0, 0),)
    # A cup with places of both has one of the other alone, a cap one of the one: each is one place short.
    return set_beside(drawing(k - 1, l), drawing(k, l - 1))


def ringless(many):
    check_number(many, LEAST_CORNERS, MOST_FOR_RINGLESS)
    # A ring with places of several parts has a cup of the leftmost, a cap of the rightmost, and of those between
    # one place each; each part to the left has the cups a place shorter, and the caps as much longer.
    sheet = drawing(many, LEAST_PLACES)
    for k in range(many - 1, LEAST_PLACES - 1, -1):
        sheet = set_beside(drawing(k, many + LEAST_PLACES - k), sheet)
    return sheet
