"""Sheets and other things that several tests ask about, and slow, plain answers to hold the program against."""

import random
from fractions import Fraction
from itertools import combinations

BIG = 10 ** 30 - 1


def deep(depth):
    thing = 0
    for level in range(depth):
        thing = [[thing], (thing,), {"a": thing}][level % 3]
    return thing


# Of whatever kind, and neither a sheet nor a row nor a paper of one.
THINGS = [
    None, True, False, 0, 1, -1, 2, BIG, -BIG, "", " ", "a", "0", "0,0", "0,0 1,5", [], (), {}, [0], (0,), (None,),
    {0: 1}, {"a": [1]}, [[0, 0]], [()], ((),), ([],), ({},), ("0,0",), (0, 0), [0, 1], (1, 0), (0, "1"), ("0", "1"),
    {(0, 1): "2"}, {(0, 1): None}, {"01": 2}, deep(9), [None, True, "a", (1, [2, {3: 4}])],
]

NO_SHEETS = THINGS + [
    [(0, 0)], ([0, 0],), ((0,),), ((0, 0, 0),), ((True, 0),), ((0, False),), ((0, "0"),), ((0, None),), ((0, (0,)),),
    ((1, 0), (0, 0)), ((0, 0), (0, 1)), ((0, 0), (0, 0)), ((0, 0), (1, 1), (2, 2)), ((0, 0), (2, 1), (1, 5)),
    ((0, 0), (1, True)), ((0, 0), [1, 1]), ((0, 0), None), {(0, 0): 1}, (0, 0), ((0, 0), 1),
    ((-BIG, -BIG), (0, 0), (BIG, BIG)), ((0, 0), (1, 5), (2, 3), (7, 1), (12, -1)),
    tuple((x, x * x) for x in range(25)),
]


def above(sheet, i, j, k):
    """Whether the point at k lies above the line through the other two, by fractions."""
    (x1, y1), (x2, y2), (x3, y3) = sheet[i], sheet[j], sheet[k]
    return y3 > y1 + Fraction(y2 - y1, x2 - x1) * (x3 - x1)


def on_line(p, q, r):
    return Fraction(q[1] - p[1], q[0] - p[0]) == Fraction(r[1] - p[1], r[0] - p[0])


def made_sheet(many, size, seed):
    """A sheet of so many points, of numbers up to this size, the same for each seed."""
    source = random.Random(seed)
    points = []
    while len(points) < many:
        point = (source.randint(-size, size), source.randint(-size, size))
        if point[0] in [p[0] for p in points]:
            continue
        if any(on_line(p, q, point) for p, q in combinations(points, 2)):
            continue
        points.append(point)
    return tuple(sorted(points))


UP_PARABOLA = tuple((x, x * x) for x in range(-12, 12))
DOWN_PARABOLA = tuple((x, -x * x) for x in range(-12, 12))
SMALL = [made_sheet(many, 12, seed) for many in range(1, 8) for seed in range(6)]
WIDE = [made_sheet(many, BIG, many) for many in (1, 2, 3, 5, 8)]
SHEETS = SMALL + WIDE + [UP_PARABOLA[:7], DOWN_PARABOLA[:7]]
LARGE = [made_sheet(24, 500, 1), made_sheet(24, BIG, 2), UP_PARABOLA, DOWN_PARABOLA]


def all_rows(sheet, up):
    """Each rising tuple of two places or more of which each three places turn up, or else each down."""
    rows = []
    for many in range(2, len(sheet) + 1):
        for row in combinations(range(len(sheet)), many):
            if all(above(sheet, *three) == up for three in combinations(row, 3)):
                rows.append(row)
    return rows
