"""Floors as texts, read and written."""

from farfloor.errors import BadText
from farfloor.floors import COLOURS, Floor

HEAD = "slip "
FIGURES = "0123456789"
MOST_FIGURES = 9
MOST_ROWS = 64
MOST_CELLS = 64


def only_signs_of(text, signs):
    return all([sign in signs for sign in text])


def tells_slip(row):
    figures = row[len(HEAD):]
    # Looked at sign by sign, as `int` takes more than figures.
    return row.startswith(HEAD) and 1 <= len(figures) <= MOST_FIGURES and only_signs_of(figures, FIGURES)


def may_follow(rows, row):
    if len(rows) == MOST_ROWS or len(row) > MOST_CELLS:
        return False
    if rows != [] and len(row) != len(rows[0]):
        return False
    return only_signs_of(row, COLOURS)


def read(text):
    told = [row.rstrip(" ") for row in text.split("\n")]
    if not tells_slip(told[0]):
        raise BadText(1)
    rows = []
    for number, row in enumerate(told[1:], start=2):
        if row == "" or row.startswith("#"):
            continue
        if not may_follow(rows, row):
            raise BadText(number)
        rows.append(row)
    if rows == []:
        raise BadText(len(told) + 1)
    return Floor(rows, int(told[0][len(HEAD):]))


def written(floor):
    told = floor.told()
    return "\n".join([HEAD + str(told[0])] + told[1])
