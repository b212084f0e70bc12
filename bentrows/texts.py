"""Sheets written as texts, and read from them."""

from bentrows.errors import NoText
from bentrows.sheets import check_sheet, is_sheet

FIGURES = "0123456789"
BLOCK_FIGURES = 60


def show_number(number):
    # Python's own str refuses numbers of some thousand figures, which told sheets may hold.
    block = 10 ** 60
    rest = abs(number)
    blocks = []
    while rest >= block:
        blocks.append(str(rest % block).zfill(BLOCK_FIGURES))
        rest = rest // block
    blocks.append(str(rest))
    figures = "".join(reversed(blocks))
    return "-" + figures if number < 0 else figures


def read_number(word):
    # A word not written so is answered by None: how to refuse it, the caller alone knows.
    figures = word[1:] if word.startswith("-") else word
    if figures == "" or not all([figure in FIGURES for figure in figures]):
        return None
    if figures.startswith("0") and word != "0":
        return None
    number = 0
    # Figure by figure: Python's own int refuses words of some thousand figures.
    for figure in figures:
        number = number * 10 + int(figure)
    return number if figures == word else -number


def show_point(point):
    return show_number(point[0]) + "," + show_number(point[1])


def read_point(word):
    parts = word.split(",")
    if len(parts) != 2:
        return None
    x = read_number(parts[0])
    y = read_number(parts[1])
    if x is None or y is None:
        return None
    return (x, y)


def show_sheet(sheet):
    check_sheet(sheet)
    return " ".join([show_point(point) for point in sheet])


def read_sheet(text):
    if not isinstance(text, str):
        raise NoText(0)
    points = []
    for word in text.split(" "):
        point = read_point(word)
        if point is None:
            raise NoText(len(points))
        if len(points) > 0 and point[0] <= points[-1][0]:
            raise NoText(len(points))
        points.append(point)
    sheet = tuple(points)
    # Each word is a point to the right of the last: only too many, or three on one line, are left.
    if not is_sheet(sheet):
        raise NoText(len(points))
    return sheet
