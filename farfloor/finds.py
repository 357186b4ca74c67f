"""Small pieces sought in a floor, and windows onto it."""

from farfloor.floors import stretched
from farfloor.wholes import turned

ANY_COLOUR = "."


def marked(row):
    # For each colour of the row a row of bits with its places.
    marks = {}
    for x, sign in enumerate(row):
        marks[sign] = marks.get(sign, 0) | (1 << x)
    return marks


def narrowed(bits, text, marks, start, wide):
    # Of the places those at which the text stands along a row that begins at `start` of the marked one.
    for x, sign in enumerate(text):
        if sign != ANY_COLOUR:
            bits = bits & turned(marks.get(sign, 0), -start - x, wide)
    return bits


def places_along(floor, marks, rows, y):
    wide = floor.steps.wide
    bits = (1 << wide) - 1
    for up, text in enumerate(rows):
        spot = floor.steps.spot(0, y + up)
        bits = narrowed(bits, text, marks[spot[1]], spot[0], wide)
        if bits == 0:
            return []
    return [x for x in range(wide) if (bits >> x) & 1 == 1]


def places(floor, rows):
    marks = [marked(row) for row in floor.rows]
    found = []
    for y in range(floor.steps.high):
        found.extend([(x, y) for x in places_along(floor, marks, rows, y)])
    return found


def window(floor, x, y, wide, high):
    return [stretched(floor, x, y + up, wide) for up in range(high)]
