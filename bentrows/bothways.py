"""A cup or a cap: one of both is always there, where a sheet has more points than their room."""

from bentrows.errors import Apart, NoRow
from bentrows.kinds import check_number
from bentrows.rows import (DOWN, UP, cap_table, cup_table, is_cap, is_cap_paper, is_cup, is_cup_paper, longest_cap,
                           longest_cup, onward_table)
from bentrows.sheets import MOST_POINTS, all_turns, check_sheet, turn_at

LEAST_PLACES = 2
MOST_PLACES = 9


def check_two_numbers(k, l):
    check_number(k, LEAST_PLACES, MOST_PLACES)
    check_number(l, LEAST_PLACES, MOST_PLACES)


def room(k, l):
    check_two_numbers(k, l)
    if k == LEAST_PLACES or l == LEAST_PLACES:
        return 1
    return room(k - 1, l) + room(k, l - 1)


def has_places(row, many):
    # A sheet of one point has no row at all: None.
    return row is not None and len(row) >= many


def cup_or_cap(sheet, k, l):
    check_sheet(sheet)
    check_two_numbers(k, l)
    cup = longest_cup(sheet)
    if has_places(cup, k):
        return ("cup", cup[:k])
    cap = longest_cap(sheet)
    if has_places(cap, l):
        return ("cap", cap[:l])
    return ("none", (cup_table(sheet), cap_table(sheet)))


def stays_below(paper, number):
    return all([paper[pair] < number for pair in paper])


def is_bar(thing, sheet, k, l):
    check_sheet(sheet)
    check_two_numbers(k, l)
    if not isinstance(thing, tuple) or len(thing) != 2:
        return False
    if not is_cup_paper(thing[0], sheet) or not is_cap_paper(thing[1], sheet):
        return False
    return stays_below(thing[0], k) and stays_below(thing[1], l)


def joined(sheet, cup, cap):
    check_sheet(sheet)
    if not is_cup(cup, sheet) or not is_cap(cap, sheet):
        raise NoRow("this is no cup, or no cap, of the sheet")
    if cup[-1] != cap[0]:
        raise Apart("the cap does not begin where the cup ends")
    if turn_at(sheet, (cup[-2], cup[-1], cap[1])) == UP:
        return ("cup", cup + (cap[1],))
    return ("cap", (cup[-2],) + cap)


def cup_ends(sheet, many):
    check_sheet(sheet)
    check_number(many, LEAST_PLACES, MOST_POINTS)
    most = cup_table(sheet)
    # The last places of a longer cup are a cup that ends there, too.
    return [j for j in range(len(sheet)) if max([most[(i, j)] for i in range(j)], default=0) >= many]


def cap_starts(sheet, many):
    check_sheet(sheet)
    check_number(many, LEAST_PLACES, MOST_POINTS)
    most = onward_table(all_turns(sheet), len(sheet), DOWN)
    # The first places of a longer cap are a cap that begins there, too.
    return [i for i in range(len(sheet)) if max([most[(i, j)] for j in range(i + 1, len(sheet))], default=0) >= many]
