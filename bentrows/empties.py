"""Empty rings: those with no point of the sheet within."""

from bentrows.kinds import check_few, check_number
from bentrows.rings import LEAST_CORNERS, is_ring_by, side_row, turns_with_ring
from bentrows.rows import DOWN, UP
from bentrows.sheets import MOST_POINTS, all_turns, check_sheet

MOST_FOR_EMPTIES = 10


def fits_between(turns, row, place, way):
    # Between two neighbours of a row a place above their line turns down with them, a place below it up.
    return all([turns[(row[at], place, row[at + 1])] == way for at in range(len(row) - 1)
                if row[at] < place < row[at + 1]])


def places_within(turns, ring):
    low = side_row(turns, ring, UP)
    high = side_row(turns, ring, DOWN)
    others = [place for place in range(ring[0] + 1, ring[-1]) if place not in ring]
    above = [place for place in others if fits_between(turns, low, place, DOWN)]
    return [place for place in above if fits_between(turns, high, place, UP)]


def within(sheet, ring):
    return places_within(turns_with_ring(sheet, ring), ring)


def is_empty_by(turns, thing, many):
    return is_ring_by(turns, thing, many) and places_within(turns, thing) == []


def is_empty_ring(thing, sheet):
    return is_empty_by(all_turns(sheet), thing, len(sheet))


def empty_rings(sheet):
    turns = all_turns(sheet)
    rows = [()]
    for place in range(len(sheet)):
        rows = rows + [row + (place,) for row in rows]
    return [row for row in rows if is_empty_by(turns, row, len(sheet))]


def empties_many(sheet, many):
    check_sheet(sheet)
    check_number(many, LEAST_CORNERS, MOST_POINTS)
    check_few(len(sheet), MOST_FOR_EMPTIES)
    return len([ring for ring in empty_rings(sheet) if len(ring) == many])


def greatest_empty(sheet):
    check_sheet(sheet)
    check_few(len(sheet), MOST_FOR_EMPTIES)
    return max(empty_rings(sheet), key=len, default=None)


def empty_three(sheet, ring):
    turns = turns_with_ring(sheet, ring)
    three = ring[:3]
    inside = places_within(turns, three)
    while len(inside) > 0:
        # With a corner there, the three enclose less than ahead, and fewer places: so this comes to an end.
        three = tuple(sorted([three[0], three[1], inside[0]]))
        inside = places_within(turns, three)
    return three
