"""Turns alone: signs, one for each three places, as a sheet could have them."""

from bentrows.errors import NoSigns
from bentrows.kinds import check_number, is_whole
from bentrows.rings import is_ring_by
from bentrows.rows import DOWN, UP, longest_row
from bentrows.sheets import MOST_POINTS, all_turns, fours, threes

MOST_FOR_ALL_SIGNS = 5
MOST_FOR_SHEETS = 4
# How high the fourth point lies, by how many of the four signs are as the first one.
FOURTH_HEIGHTS = (-1, 1, 7, 9)


def is_sign(thing):
    return is_whole(thing) and (thing == UP or thing == DOWN)


def turns_by_signs(many, signs):
    return dict(zip(threes(many), signs))


def change_once_at_most(turns, four):
    h = four[0]
    i = four[1]
    j = four[2]
    k = four[3]
    row = [turns[(h, i, j)], turns[(h, i, k)], turns[(h, j, k)], turns[(i, j, k)]]
    return len([at for at in range(3) if row[at] != row[at + 1]]) <= 1


def are_signs_of(many, thing):
    if not isinstance(thing, tuple) or not all([is_sign(sign) for sign in thing]):
        return False
    if len(thing) != len(threes(many)):
        return False
    turns = turns_by_signs(many, thing)
    return all([change_once_at_most(turns, four) for four in fours(many)])


def are_signs(many, thing):
    check_number(many, 1, MOST_POINTS)
    return are_signs_of(many, thing)


def check_signs(many, most, signs):
    check_number(many, 1, most)
    if not are_signs_of(many, signs):
        raise NoSigns("these are no signs of so many places")


def signs_of(sheet):
    turns = all_turns(sheet)
    return tuple([turns[three] for three in threes(len(sheet))])


def cup_by_signs(many, signs):
    check_signs(many, MOST_POINTS, signs)
    return longest_row(turns_by_signs(many, signs), many, UP)


def is_ring_by_signs(thing, many, signs):
    check_signs(many, MOST_POINTS, signs)
    return is_ring_by(turns_by_signs(many, signs), thing, many)


def all_signs(many):
    check_number(many, 1, MOST_FOR_ALL_SIGNS)
    rows = [()]
    for at in range(len(threes(many))):
        longer = []
        for row in rows:
            # Down ahead of up: so the rows stay rising.
            longer.extend([row + (DOWN,), row + (UP,)])
        rows = longer
    return [row for row in rows if are_signs_of(many, row)]


def sheet_by_signs(many, signs):
    check_signs(many, MOST_FOR_SHEETS, signs)
    # The lines through two of the first three points pass x = 3 at 0, 6 and 8, or turned over.
    first = signs[0] if many > 2 else UP
    alike = signs.count(first)
    height = FOURTH_HEIGHTS[alike - 1]
    return ((0, 0), (1, 0), (2, 4 * first), (3, height * first))[:many]
