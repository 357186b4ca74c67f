"""Moves of the cells: eight words, each with a shift."""

from farfloor.errors import NoWord

WORDS = ("shift", "half", "left", "right", "flipx", "flipy", "diag", "anti")

# For each word how often x and y are taken for the new x, and then how often for the new y.
TURNS = {
    "shift": (1, 0, 0, 1),
    "half": (-1, 0, 0, -1),
    "left": (0, -1, 1, 0),
    "right": (0, 1, -1, 0),
    "flipx": (-1, 0, 0, 1),
    "flipy": (1, 0, 0, -1),
    "diag": (0, 1, 1, 0),
    "anti": (0, -1, -1, 0),
}

# Each other word undoes itself.
UNDOING = {"left": "right", "right": "left"}


class Move:
    def __init__(self, word, p, q):
        if word not in WORDS:
            raise NoWord(f"{word!r} is none of the eight words")
        self.called = word
        self.p = p
        self.q = q

    def part(self, x, y):
        turn = TURNS[self.called]
        return (turn[0] * x + turn[1] * y, turn[2] * x + turn[3] * y)

    def to(self, x, y):
        led = self.part(x, y)
        return (led[0] + self.p, led[1] + self.q)

    def word(self):
        return self.called

    def told(self):
        return (self.called, self.p, self.q)


def move(word, p=0, q=0):
    return Move(word, p, q)


def joined(one, other):
    # (2, 1) lies on none of the mirrors, so each of the eight words leads it to another cell.
    half = one.part(2, 1)
    end = other.part(half[0], half[1])
    return [word for word in WORDS if Move(word, 0, 0).part(2, 1) == end][0]


def behind(one, other):
    half = one.to(0, 0)
    end = other.to(half[0], half[1])
    return Move(joined(one, other), end[0], end[1])


def back(one):
    word = UNDOING.get(one.called, one.called)
    start = Move(word, 0, 0).part(-one.p, -one.q)
    return Move(word, start[0], start[1])
