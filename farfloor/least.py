"""The steps that keep a floor, and the floor told by these."""

from farfloor.floors import Floor
from farfloor.steps import Steps
from farfloor.wholes import meeting, shared


def period(row):
    # The row goes on without end, so in two of it it is found again at the latest behind the first.
    return (row + row).find(row, 1)


def multiple(one, other):
    return one // shared(one, other) * other


def slip_at(rows, periods, floor, high):
    # The slip with which the rows stand in the floor, so high up. Each row tells it but for its own period.
    slip = 0
    wide = 1
    for y, row in enumerate(rows):
        ahead = floor.along(0, y + high)
        place = (ahead + ahead).find(row)
        if place < 0:
            return None
        slip = meeting(wide, slip, periods[y], place)
        if slip is None:
            return None
        wide = multiple(wide, periods[y])
    return slip


def keeping(floor):
    periods = [period(row) for row in floor.rows]
    wide = 1
    for own in periods:
        wide = multiple(wide, own)
    steps = floor.steps
    # The floor's own steps keep it, so the least height that does divides theirs.
    for high in range(1, steps.high):
        if steps.high % high == 0:
            slip = slip_at(floor.rows, periods, floor, high)
            if slip is not None:
                return Steps(wide, slip, high)
    return Steps(wide, steps.slip, steps.high)


def least(floor):
    steps = keeping(floor)
    rows = [row[:steps.wide] for row in floor.rows[:steps.high]]
    return Floor(rows, steps.slip)


def unlike_place(one, other):
    # Mostly the two are alike, and whole texts are held against each other much faster than sign by sign.
    if one == other:
        return None
    for x, pair in enumerate(zip(one, other)):
        if pair[0] != pair[1]:
            return x
    return None


def fault(floor, p, q):
    for y, row in enumerate(floor.rows):
        x = unlike_place(row, floor.along(p, y + q))
        if x is not None:
            return (x, y)
    return None
