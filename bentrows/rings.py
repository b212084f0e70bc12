"""Rings: places whose points are the corners of a figure that bends one way round."""

from bentrows.errors import Bare, NoRing
from bentrows.kinds import are_rising_places, check_few, check_number, is_place, is_whole
from bentrows.rows import DOWN, UP, row_bends
from bentrows.sheets import MOST_POINTS, all_turns, check_sheet, turn_at

LEAST_CORNERS = 3
MOST_FOR_PAPERS = 12


def side_row(turns, ring, way):
    # A point lies below the line through the first and the last just where the three turn up.
    first = ring[0]
    last = ring[-1]
    return (first,) + tuple([place for place in ring[1:-1] if turns[(first, place, last)] == way]) + (last,)


def is_ring_by(turns, thing, many):
    if not are_rising_places(thing, many) or len(thing) < LEAST_CORNERS:
        return False
    return all([row_bends(turns, side_row(turns, thing, way), way) for way in (UP, DOWN)])


def is_ring(thing, sheet):
    return is_ring_by(all_turns(sheet), thing, len(sheet))


def turns_with_ring(sheet, ring):
    turns = all_turns(sheet)
    if not is_ring_by(turns, ring, len(sheet)):
        raise NoRing("this is no ring of the sheet")
    return turns


def low_row(sheet, ring):
    return side_row(turns_with_ring(sheet, ring), ring, UP)


def high_row(sheet, ring):
    return side_row(turns_with_ring(sheet, ring), ring, DOWN)


def outer_row(sheet, way):
    # What does not bend with the newest place lies within, whatever comes behind.
    row = []
    for place in range(len(sheet)):
        while len(row) > 1 and turn_at(sheet, (row[-2], row[-1], place)) != way:
            row.pop()
        row.append(place)
    return tuple(row)


def ring_of_rows(low, high):
    return tuple(sorted(low + high[1:-1]))


def outer_ring(sheet):
    check_sheet(sheet)
    if len(sheet) < LEAST_CORNERS:
        raise Bare("a ring has three places or more")
    return ring_of_rows(outer_row(sheet, UP), outer_row(sheet, DOWN))


def tallies_from(turns, many, first, way):
    # For each two last places a list: at each number, how many rows from the first place have so many places.
    tallies = {}
    for i in range(first, many):
        for j in range(i + 1, many):
            tally = [0] * (MOST_POINTS + 1)
            if i == first:
                tally[2] = 1
            for h in range(first, i):
                if turns[(h, i, j)] == way:
                    for places in range(2, MOST_POINTS):
                        tally[places + 1] += tallies[(h, i)][places]
            tallies[(i, j)] = tally
    return tallies


def tally_between(tallies, first, last):
    return [sum([tallies[(i, last)][places] for i in range(first, last)]) for places in range(MOST_POINTS + 1)]


def rings_many(sheet, many):
    check_sheet(sheet)
    check_number(many, LEAST_CORNERS, MOST_POINTS)
    turns = all_turns(sheet)
    found = 0
    for first in range(len(sheet)):
        cups = tallies_from(turns, len(sheet), first, UP)
        caps = tallies_from(turns, len(sheet), first, DOWN)
        for last in range(first + 1, len(sheet)):
            low = tally_between(cups, first, last)
            high = tally_between(caps, first, last)
            # The first and the last place are counted in both rows.
            found += sum([low[places] * high[many + 2 - places] for places in range(2, many + 1)])
    return found


def longest_from(turns, many, first, way):
    # For each two last places a longest row from the first place on; () where there is none.
    rows = {}
    for j in range(first + 1, many):
        rows[(first, j)] = (first, j)
    for i in range(first + 1, many):
        for j in range(i + 1, many):
            ahead = [rows[(h, i)] for h in range(first, i) if rows[(h, i)] != () and turns[(h, i, j)] == way]
            rows[(i, j)] = max([row + (j,) for row in ahead], key=len, default=())
    return rows


def longest_between(rows, first, last):
    return max([rows[(i, last)] for i in range(first, last)], key=len)


def greatest_ring(sheet):
    turns = all_turns(sheet)
    many = len(sheet)
    if many < LEAST_CORNERS:
        return None
    greatest = ()
    for first in range(many):
        cups = longest_from(turns, many, first, UP)
        caps = longest_from(turns, many, first, DOWN)
        for last in range(first + 1, many):
            ring = ring_of_rows(longest_between(cups, first, last), longest_between(caps, first, last))
            greatest = max([greatest, ring], key=len)
    return greatest


def way_paper(turns, many, way):
    paper = {}
    for first in range(many):
        rows = longest_from(turns, many, first, way)
        for pair in rows:
            paper[(first,) + pair] = len(rows[pair])
    return paper


def ring_paper(sheet):
    check_sheet(sheet)
    check_few(len(sheet), MOST_FOR_PAPERS)
    turns = all_turns(sheet)
    return (way_paper(turns, len(sheet), UP), way_paper(turns, len(sheet), DOWN))


def is_way_key(thing, many):
    if not isinstance(thing, tuple) or len(thing) != 3:
        return False
    return is_place(thing[0], many) and are_rising_places(thing[1:], many) and thing[0] <= thing[1]


def has_way_form(thing, many):
    if not isinstance(thing, dict) or len(thing) != (many + 1) * many * (many - 1) // 6:
        return False
    for key in thing:
        if not is_way_key(key, many) or not is_whole(thing[key]):
            return False
        if thing[key] < (2 if key[0] == key[1] else 0):
            return False
    return True


def is_way_paper(thing, turns, many, way):
    if not has_way_form(thing, many):
        return False
    for three in turns:
        if turns[three] == way:
            for first in range(three[0] + 1):
                number = thing[(first,) + three[:2]]
                if number >= 2 and thing[(first,) + three[1:]] <= number:
                    return False
    return True


def greatest_number(paper, first, last):
    return max([paper[(first, i, last)] for i in range(first, last)])


def paper_bound(low, high, many):
    bound = 0
    for first in range(many):
        for last in range(first + 1, many):
            together = greatest_number(low, first, last) + greatest_number(high, first, last)
            bound = max(bound, together - 2)
    return bound


def ring_bound(thing, sheet):
    check_sheet(sheet)
    check_few(len(sheet), MOST_FOR_PAPERS)
    turns = all_turns(sheet)
    many = len(sheet)
    if not isinstance(thing, tuple) or len(thing) != 2:
        return None
    if not is_way_paper(thing[0], turns, many, UP) or not is_way_paper(thing[1], turns, many, DOWN):
        return None
    return paper_bound(thing[0], thing[1], many)
