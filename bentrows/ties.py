"""Ties: straight lines between two places, which of them cross, and what lies on their sides."""

from bentrows.errors import NoNumber, NoPlace
from bentrows.kinds import are_rising_places, is_whole
from bentrows.sheets import bend, check_sheet, fours


def lies_above(sheet, i, j, place):
    # With i left of j, wherever the place stands.
    return bend(sheet[i], sheet[j], sheet[place]) > 0


def parts(sheet, i, j, one, other):
    return lies_above(sheet, i, j, one) != lies_above(sheet, i, j, other)


def cross(sheet, ties):
    a = ties[0]
    b = ties[1]
    c = ties[2]
    d = ties[3]
    return parts(sheet, a, b, c, d) and parts(sheet, c, d, a, b)


def ties_of_four(four):
    # The tie of the first two places lies left of that of the last two: they never cross.
    return [(four[0], four[2], four[1], four[3]), (four[0], four[3], four[1], four[2])]


def crossings(sheet):
    check_sheet(sheet)
    found = []
    for four in fours(len(sheet)):
        found.extend([ties for ties in ties_of_four(four) if cross(sheet, ties)])
    return sorted(found)


def sides_at(sheet, i, j):
    others = [place for place in range(len(sheet)) if place != i and place != j]
    above = len([place for place in others if lies_above(sheet, i, j, place)])
    return (above, len(others) - above)


def sides(sheet, i, j):
    check_sheet(sheet)
    if not are_rising_places((i, j), len(sheet)):
        raise NoPlace("these are no two rising places of the sheet")
    return sides_at(sheet, i, j)


def all_ties(sheet):
    found = []
    for i in range(len(sheet)):
        found.extend([(i, j) for j in range(i + 1, len(sheet))])
    return found


def depths_many(sheet, depth):
    check_sheet(sheet)
    if not is_whole(depth) or depth < 0:
        raise NoNumber("a depth is a whole number from 0 on")
    return len([tie for tie in all_ties(sheet) if min(sides_at(sheet, tie[0], tie[1])) == depth])


def halves(sheet, tie):
    both = sides_at(sheet, tie[0], tie[1])
    return abs(both[0] - both[1]) <= 1


def halving(sheet):
    check_sheet(sheet)
    return [tie for tie in all_ties(sheet) if halves(sheet, tie)]
