"""Moves that keep a floor, moves that lead one floor into another, and what they lead wrong."""

from farfloor.floors import moved, stretched
from farfloor.least import least, period, slip_at, unlike_place
from farfloor.moves import WORDS, back, move
from farfloor.steps import common


def shift_to(one, other):
    # Of floors told least, so two such shifts would differ by a step of theirs: the piece holds one at most.
    if one.steps.told() != other.steps.told():
        return None
    periods = [period(row) for row in one.rows]
    for q in range(one.steps.high):
        p = slip_at(one.rows, periods, other, q)
        if p is not None:
            return (p, q)
    return None


def leading(one, other, word):
    shift = shift_to(moved(one, move(word)), other)
    if shift is None:
        return None
    return move(word, shift[0], shift[1])


def keepers(floor):
    plain = least(floor)
    ways = [leading(plain, plain, word) for word in WORDS]
    return [way.told() for way in ways if way is not None]


def carrier(one, other):
    start = least(one)
    goal = least(other)
    for word in WORDS:
        way = leading(start, goal, word)
        if way is not None:
            return way
    return None


def same(one, other):
    return least(one).told() == least(other).told()


def unlike(one, other, way):
    # At each cell of the goal stands the colour to which the move leads that cell.
    goal = moved(other, back(way))
    # The piece that both share may be many thousand times as great as theirs; it is not walked for nothing.
    if same(one, goal):
        return None
    # Two rows that repeat are alike for ever if they are so for as long as both together.
    reach = one.steps.wide + goal.steps.wide
    for y in range(common(one.steps, goal.steps).high):
        x = unlike_place(stretched(one, 0, y, reach), stretched(goal, 0, y, reach))
        if x is not None:
            return (x, y)
    return None
