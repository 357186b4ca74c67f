"""Sets of steps in their plainest form, and their pieces."""

from farfloor.errors import Thin
from farfloor.wholes import meeting, shared


class Steps:
    def __init__(self, wide, slip, high):
        if wide == 0 or high == 0:
            raise Thin("the steps stay on a line")
        # A step taken back makes the same set, so each set can be brought to its one plainest form.
        if high < 0:
            slip = -slip
        self.wide = abs(wide)
        self.slip = slip % self.wide
        self.high = abs(high)

    def spot(self, x, y):
        times = y // self.high
        return ((x - times * self.slip) % self.wide, y % self.high)

    def holds(self, x, y):
        return self.spot(x, y) == (0, 0)

    def many(self):
        return self.wide * self.high

    def cells(self):
        found = []
        for y in range(self.high):
            found.extend([(x, y) for x in range(self.wide)])
        return found

    def told(self):
        return (self.wide, self.slip, self.high)


def levelled(lead, row):
    # Each turn takes one pair from the other some times, so the two make the same set all along.
    while row[1] != 0:
        times = lead[1] // row[1]
        rest = (lead[0] - times * row[0], lead[1] - times * row[1])
        lead = row
        row = rest
    return (lead, row[0])


def plainest(rows):
    wide = 0
    lead = (0, 0)
    for row in rows:
        pair = levelled(lead, row)
        lead = pair[0]
        wide = shared(wide, pair[1])
        # Without this the numbers would grow with each step that is far out.
        if wide != 0:
            lead = (lead[0] % wide, lead[1])
    return Steps(wide, lead[0], lead[1])


def made(steps):
    return [(steps.wide, 0), (steps.slip, steps.high)]


def together(one, other):
    return plainest(made(one) + made(other))


def common(one, other):
    high = one.high // shared(one.high, other.high) * other.high
    first = high // one.high * one.slip
    second = high // other.high * other.slip
    # At the first height that both reach, their rows may miss each other; some times as high they meet.
    part = shared(one.wide, other.wide)
    times = part // shared(part, first - second)
    slip = meeting(one.wide, first * times, other.wide, second * times)
    return Steps(one.wide // part * other.wide, slip, high * times)
