"""Sheets and other things that several tests ask about, and slow, plain answers to hold the program against."""

import random
from fractions import Fraction
from functools import lru_cache
from itertools import combinations

BIG = 10 ** 30 - 1


def deep(depth):
    thing = 0
    for level in range(depth):
        thing = [[thing], (thing,), {"a": thing}][level % 3]
    return thing


# Of whatever kind, and neither a sheet nor a row nor a paper of one.
THINGS = [
    None, True, False, 0, 1, -1, 2, BIG, -BIG, "", " ", "a", "0", "0,0", "0,0 1,5", [], (), {}, [0], (0,), (None,),
    {0: 1}, {"a": [1]}, [[0, 0]], [()], ((),), ([],), ({},), ("0,0",), (0, 0), [0, 1], (1, 0), (0, "1"), ("0", "1"),
    {(0, 1): "2"}, {(0, 1): None}, {"01": 2}, deep(9), [None, True, "a", (1, [2, {3: 4}])],
]

# Of whatever kind, and no number that is asked for with bounds from 2 on.
NO_NUMBERS = [thing for thing in THINGS if isinstance(thing, bool) or not isinstance(thing, int)]
NO_NUMBERS += [0, 1, -1, -2, -3, BIG, -BIG, [3], (3,), {3: 3}, "3", "2", "three", [True], (3, 3), ((3,),)]

NO_SHEETS = THINGS + [
    [(0, 0)], ([0, 0],), ((0,),), ((0, 0, 0),), ((True, 0),), ((0, False),), ((0, "0"),), ((0, None),), ((0, (0,)),),
    ((1, 0), (0, 0)), ((0, 0), (0, 1)), ((0, 0), (0, 0)), ((0, 0), (1, 1), (2, 2)), ((0, 0), (2, 1), (1, 5)),
    ((0, 0), (1, True)), ((0, 0), [1, 1]), ((0, 0), None), {(0, 0): 1}, (0, 0), ((0, 0), 1),
    ((-BIG, -BIG), (0, 0), (BIG, BIG)), ((0, 0), (1, 5), (2, 3), (7, 1), (12, -1)),
    tuple((x, x * x) for x in range(25)),
]


def above(sheet, i, j, k):
    """Whether the point at k lies above the line through the other two, by fractions."""
    (x1, y1), (x2, y2), (x3, y3) = sheet[i], sheet[j], sheet[k]
    return y3 > y1 + Fraction(y2 - y1, x2 - x1) * (x3 - x1)


def on_line(p, q, r):
    return Fraction(q[1] - p[1], q[0] - p[0]) == Fraction(r[1] - p[1], r[0] - p[0])


def made_sheet(many, size, seed):
    """A sheet of so many points, of numbers up to this size, the same for each seed."""
    source = random.Random(seed)
    points = []
    while len(points) < many:
        point = (source.randint(-size, size), source.randint(-size, size))
        if point[0] in [p[0] for p in points]:
            continue
        if any(on_line(p, q, point) for p, q in combinations(points, 2)):
            continue
        points.append(point)
    return tuple(sorted(points))


UP_PARABOLA = tuple((x, x * x) for x in range(-12, 12))
DOWN_PARABOLA = tuple((x, -x * x) for x in range(-12, 12))
SMALL = [made_sheet(many, 12, seed) for many in range(1, 8) for seed in range(6)]
WIDE = [made_sheet(many, BIG, many) for many in (1, 2, 3, 5, 8)]
SHEETS = SMALL + WIDE + [UP_PARABOLA[:7], DOWN_PARABOLA[:7]]
LARGE = [made_sheet(24, 500, 1), made_sheet(24, BIG, 2), UP_PARABOLA, DOWN_PARABOLA]


def all_rows(sheet, up):
    """Each rising tuple of two places or more of which each three places turn up, or else each down."""
    rows = []
    for many in range(2, len(sheet) + 1):
        for row in combinations(range(len(sheet)), many):
            if all(above(sheet, *three) == up for three in combinations(row, 3)):
                rows.append(row)
    return rows


def on_left(p, q, r):
    return (q[0] - p[0]) * (r[1] - p[1]) > (q[1] - p[1]) * (r[0] - p[0])


def lies_inside(sheet, three, place):
    """Whether the point at the place lies inside the three-sided figure of three others."""
    p, q, r = [sheet[corner] for corner in three]
    m = sheet[place]
    return on_left(p, q, m) == on_left(q, r, m) == on_left(r, p, m)


def plain_within(sheet, ring):
    """The places inside a ring: each lies inside some three of its corners."""
    others = [place for place in range(len(sheet)) if place not in ring]
    return [m for m in others if any(lies_inside(sheet, three, m) for three in combinations(ring, 3))]


@lru_cache(maxsize=None)
def all_rings(sheet):
    """Each rising tuple of three places or more of which none lies inside three others."""
    places = range(len(sheet))
    dented = []
    for three in combinations(places, 3):
        dented += [{*three, m} for m in places if m not in three and lies_inside(sheet, three, m)]
    rings = []
    for many in range(3, len(sheet) + 1):
        for ring in combinations(places, many):
            if not any(four <= set(ring) for four in dented):
                rings.append(ring)
    return rings


# Three corners round all others.
NESTED = ((-60, -20), (-3, 1), (-2, 7), (0, 3), (1, -4), (4, 5), (5, 90), (70, -31))
# A cap, and behind it a cup that falls so steeply that no two of its places go on a cup from the first place.
CAP_THEN_CUP = ((0, 0), (1, 10), (2, 19), (3, 27), (4, 34), (10, -1000), (11, -1990), (12, -2970), (13, -3940),
                (14, -4900), (15, -5850))
TWELVE = [made_sheet(12, 40, 5), made_sheet(12, BIG, 6), UP_PARABOLA[:12], DOWN_PARABOLA[:12], CAP_THEN_CUP]
TEN = [made_sheet(10, 30, 7), made_sheet(9, 30, 8), made_sheet(10, BIG, 9), UP_PARABOLA[:10], DOWN_PARABOLA[:10]]
