"""Floors: a piece of coloured cells that steps repeat, and the floors that are made of others."""

from farfloor.errors import NoColour
from farfloor.moves import back
from farfloor.steps import Steps, common, made, plainest

COLOURS = "0123456789abcdefghijklmnopqrstuvwxyz"


class Floor:
    def __init__(self, rows, slip=0):
        # The list is the caller's, who may change it later.
        self.rows = tuple(rows)
        self.steps = Steps(len(self.rows[0]), slip, len(self.rows))

    def at(self, x, y):
        spot = self.steps.spot(x, y)
        return self.rows[spot[1]][spot[0]]

    def along(self, x, y):
        # One width of the row from the cell on; behind it the row begins anew.
        spot = self.steps.spot(x, y)
        row = self.rows[spot[1]]
        return row[spot[0]:] + row[:spot[0]]

    def told(self):
        return (self.steps.slip, list(self.rows))


def painted(steps, colour):
    rows = []
    for y in range(steps.high):
        rows.append("".join([colour(x, y) for x in range(steps.wide)]))
    return Floor(rows, steps.slip)


def moved(floor, way):
    undoing = back(way)

    def colour(x, y):
        cell = undoing.to(x, y)
        return floor.at(cell[0], cell[1])

    # A shift leads two cells that a step parts to two that the same step parts, so only the word counts.
    steps = plainest([way.part(x, y) for x, y in made(floor.steps)])
    return painted(steps, colour)


def stretched(floor, x, y, wide):
    # So many signs of the row from the cell on, however wide the floor's own piece is.
    times = wide // floor.steps.wide + 1
    return (floor.along(x, y) * times)[:wide]


def mixed(one, other, choice):
    steps = common(one.steps, other.steps)
    rows = []
    # Whole rows at a time: what both share may be many thousand times as great as a piece of theirs.
    for y in range(steps.high):
        first = stretched(one, 0, y, steps.wide)
        second = stretched(other, 0, y, steps.wide)
        rows.append("".join([choice(near, far) for near, far in zip(first, second)]))
    return Floor(rows, steps.slip)


def must_be_colour(sign):
    # Asked of the signs one by one, as a text holds longer texts and the empty one too.
    if sign not in tuple(COLOURS):
        raise NoColour(f"{sign!r} is no colour")


def recoloured(floor, table):
    for told, put in table.items():
        must_be_colour(told)
        must_be_colour(put)
    rows = []
    for row in floor.rows:
        rows.append("".join([table.get(sign, sign) for sign in row]))
    return Floor(rows, floor.steps.slip)
