"""Peels, ring within ring, and points that are lifted."""

from bentrows.errors import Apart
from bentrows.kinds import check_place, check_whole
from bentrows.rings import LEAST_CORNERS, outer_ring
from bentrows.sheets import check_sheet, sheet_of, threes, turn_at


def outer_places(sheet, places):
    if len(places) < LEAST_CORNERS:
        return tuple(places)
    ring = outer_ring(tuple([sheet[place] for place in places]))
    return tuple([places[at] for at in ring])


def peels(sheet):
    check_sheet(sheet)
    found = []
    left = list(range(len(sheet)))
    while len(left) > 0:
        peel = outer_places(sheet, left)
        found.append(peel)
        left = [place for place in left if place not in peel]
    return found


def layer(sheet, place):
    check_sheet(sheet)
    check_place(place, len(sheet))
    return [place in peel for peel in peels(sheet)].index(True)


def lifted(sheet, place, by):
    check_sheet(sheet)
    check_place(place, len(sheet))
    check_whole(by)
    points = list(sheet)
    points[place] = (sheet[place][0], sheet[place][1] + by)
    return sheet_of(points)


def way_to_line(point, first, second):
    # How far the line through both others lies above the point: a tuple, the first number to be parted by the second.
    wide = second[0] - first[0]
    rise = (second[1] - first[1]) * (point[0] - first[0])
    return ((first[1] - point[1]) * wide + rise, wide)


def leeway(sheet, place):
    check_sheet(sheet)
    check_place(place, len(sheet))
    others = sheet[:place] + sheet[place + 1:]
    lows = []
    highs = []
    for at in range(len(others)):
        for second in others[at + 1:]:
            way = way_to_line(sheet[place], others[at], second)
            # Short of the line, not onto it: there three points would lie on one line.
            if way[0] > 0:
                highs.append((way[0] - 1) // way[1])
            else:
                lows.append(way[0] // way[1] + 1)
    return (max(lows, default=None), min(highs, default=None))


def turned_otherwise(one, other):
    check_sheet(one)
    check_sheet(other)
    if len(one) != len(other):
        raise Apart("one sheet has more points than the other one")
    return [three for three in threes(len(one)) if turn_at(one, three) != turn_at(other, three)]
