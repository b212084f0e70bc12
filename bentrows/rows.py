"""Cups and caps: rows of places of which each three neighbours turn up, or down."""

from bentrows.kinds import are_rising_places, is_whole
from bentrows.sheets import all_turns

UP = 1
DOWN = -1


def row_bends(turns, row, way):
    return all([turns[row[at:at + 3]] == way for at in range(len(row) - 2)])


def bends(thing, sheet, way):
    turns = all_turns(sheet)
    if not are_rising_places(thing, len(sheet)) or len(thing) < 2:
        return False
    return row_bends(turns, thing, way)


def is_cup(thing, sheet):
    return bends(thing, sheet, UP)


def is_cap(thing, sheet):
    return bends(thing, sheet, DOWN)


def row_table(sheet, way):
    turns = all_turns(sheet)
    most = {}
    for i in range(len(sheet)):
        for j in range(i + 1, len(sheet)):
            most[(i, j)] = 1 + max([most[(h, i)] for h in range(i) if turns[(h, i, j)] == way], default=1)
    return most


def cup_table(sheet):
    return row_table(sheet, UP)


def cap_table(sheet):
    return row_table(sheet, DOWN)


def onward_table(turns, many, way):
    # How long a row that begins with i and j can be: told from the front, a first row is found without a search.
    most = {}
    for i in range(many - 2, -1, -1):
        for j in range(i + 1, many):
            most[(i, j)] = 1 + max([most[(j, k)] for k in range(j + 1, many) if turns[(i, j, k)] == way], default=1)
    return most


def longest_row(turns, many, way):
    if many == 1:
        return None
    onward = onward_table(turns, many, way)
    length = max(onward.values())
    row = min([pair for pair in onward if onward[pair] == length])
    while len(row) < length:
        i = row[-2]
        j = row[-1]
        left = length - len(row) + 1
        row = row + (min([k for k in range(j + 1, many) if turns[(i, j, k)] == way and onward[(j, k)] == left]),)
    return row


def longest_cup(sheet):
    return longest_row(all_turns(sheet), len(sheet), UP)


def longest_cap(sheet):
    return longest_row(all_turns(sheet), len(sheet), DOWN)


def has_paper_form(thing, many):
    if not isinstance(thing, dict) or len(thing) != many * (many - 1) // 2:
        return False
    for pair in thing:
        if not are_rising_places(pair, many) or len(pair) != 2:
            return False
        if not is_whole(thing[pair]) or thing[pair] < 2:
            return False
    return True


def is_paper(thing, sheet, way):
    turns = all_turns(sheet)
    if not has_paper_form(thing, len(sheet)):
        return False
    for three in turns:
        if turns[three] == way and thing[three[1:]] <= thing[three[:2]]:
            return False
    return True


def is_cup_paper(thing, sheet):
    return is_paper(thing, sheet, UP)


def is_cap_paper(thing, sheet):
    return is_paper(thing, sheet, DOWN)
