import itertools
import unittest

from farfloor.errors import FloorError, NoColour
from farfloor.floors import Floor, mixed, moved, painted, recoloured
from farfloor.moves import WORDS, move
from farfloor.steps import Steps, common, plainest

FAR = 2 * 10 ** 18
COLOURS = "0123456789abcdefghijklmnopqrstuvwxyz"
TOLD = [
    (["0"], 0),
    (["0a1b2"], 0),
    (["0a1b2"], 3),
    (["0", "z", "9", "z"], 0),
    (["01", "23"], 0),
    (["01", "23"], 1),
    (["0123", "4567", "89ab"], 0),
    (["0123", "4567", "89ab"], 1),
    (["0123", "4567", "89ab"], 2),
    (["abcde", "fghij"], 4),
    (["010", "110", "001", "111"], 2),
]
SHIFTS = [(0, 0), (1, 0), (0, 1), (5, -3), (-7, 11), (FAR, -FAR), (3 - FAR, FAR - 5)]
AROUND = list(itertools.product(range(-7, 9), repeat=2))
FAR_CELLS = [(FAR, FAR), (-FAR, FAR), (FAR - 3, 1 - FAR), (-FAR + 1, -FAR + 2), (0, FAR), (-FAR, 0)]


def colour_by_steps(rows, slip, x, y):
    # Goes by the steps themselves: rows up or down by (slip, high), then along by (wide, 0).
    wide = len(rows[0])
    high = len(rows)
    times = (y - y % high) // high
    return rows[y - times * high][(x - times * slip) % wide]


def long_rows(wide, high, by):
    return ["".join(COLOURS[(x * x * by + y * 7 + x * y) % 36] for x in range(wide)) for y in range(high)]


class FloorTest(unittest.TestCase):
    def test_told_cells(self):
        floor = Floor(["012", "abc"], 1)
        self.assertEqual([floor.at(x, 0) for x in range(-3, 6)], list("012012012"))
        self.assertEqual([floor.at(x, 1) for x in range(-3, 6)], list("abcabcabc"))
        self.assertEqual([floor.at(x, 2) for x in range(-3, 6)], list("201201201"))
        self.assertEqual([floor.at(x, 3) for x in range(-3, 6)], list("cabcabcab"))
        self.assertEqual([floor.at(x, -1) for x in range(-3, 6)], list("bcabcabca"))
        self.assertEqual([floor.at(x, -2) for x in range(-3, 6)], list("120120120"))

    def test_cells_in_the_piece(self):
        for rows, slip in TOLD + [(long_rows(64, 64, 5), 33)]:
            floor = Floor(rows, slip)
            for y, row in enumerate(rows):
                self.assertEqual("".join(floor.at(x, y) for x in range(len(row))), row)

    def test_cells_beyond_the_piece(self):
        for (rows, own), more in itertools.product(TOLD, (0, 1, -1, 5, -9, FAR, -FAR, FAR - 1)):
            slip = own + more
            floor = Floor(rows, slip)
            for x, y in AROUND + FAR_CELLS:
                self.assertEqual(floor.at(x, y), colour_by_steps(rows, slip, x, y), (rows, slip, x, y))

    def test_steps_lead_to_the_same_colour(self):
        for rows, slip in TOLD:
            floor = Floor(rows, slip)
            for x, y in AROUND:
                for times in (1, -1, 10 ** 17):
                    self.assertEqual(floor.at(x + times * len(rows[0]), y), floor.at(x, y))
                    self.assertEqual(floor.at(x + times * slip, y + times * len(rows)), floor.at(x, y))

    def test_steps(self):
        self.assertEqual(Floor(["012", "abc"]).steps.told(), (3, 0, 2))
        self.assertEqual(Floor(["012", "abc"], 2).steps.told(), (3, 2, 2))
        self.assertEqual(Floor(["012", "abc"], 7).steps.told(), (3, 1, 2))
        self.assertEqual(Floor(["012", "abc"], -1).steps.told(), (3, 2, 2))
        self.assertEqual(Floor(["0123456"], FAR).steps.told(), (7, FAR % 7, 1))
        self.assertEqual(Floor(["0"] * 64, -FAR).steps.told(), (1, 0, 64))
        self.assertIsInstance(Floor(["0"]).steps, Steps)

    def test_told(self):
        self.assertEqual(Floor(["012", "abc"]).told(), (0, ["012", "abc"]))
        self.assertEqual(Floor(["012", "abc"], slip=3).told(), (0, ["012", "abc"]))
        self.assertEqual(Floor(["012", "abc"], 5).told(), (2, ["012", "abc"]))
        self.assertEqual(Floor(["012", "abc"], -4).told(), (2, ["012", "abc"]))
        self.assertEqual(Floor(rows=["z"], slip=FAR).told(), (0, ["z"]))
        self.assertIs(type(Floor(["0"]).told()), tuple)

    def test_told_is_not_told_least(self):
        self.assertEqual(Floor(["0101", "0101"], 2).told(), (2, ["0101", "0101"]))

    def test_the_rows_handed_in_may_change_afterwards(self):
        rows = ["012", "abc"]
        floor = Floor(rows, 1)
        self.assertEqual(rows, ["012", "abc"])
        rows[0] = "zzz"
        rows.append("yyy")
        self.assertEqual(floor.told(), (1, ["012", "abc"]))
        self.assertEqual(floor.at(0, 0), "0")
        self.assertEqual(floor.steps.told(), (3, 1, 2))

    def test_what_told_gave_may_change_afterwards(self):
        floor = Floor(["012", "abc"], 1)
        given = floor.told()[1]
        given[0] = "zzz"
        given.append("yyy")
        self.assertEqual(floor.told(), (1, ["012", "abc"]))
        self.assertIsNot(floor.told()[1], floor.told()[1])
        self.assertEqual(floor.at(0, 0), "0")


class MovedTest(unittest.TestCase):
    def check(self, rows, slip, way, cells):
        floor = Floor(rows, slip)
        end = moved(floor, way)
        for x, y in cells:
            self.assertEqual(end.at(*way.to(x, y)), colour_by_steps(rows, slip, x, y), (rows, slip, way.told(), x, y))
        self.assertEqual(floor.told(), (slip % len(rows[0]), rows))
        steps = plainest([way.part(len(rows[0]), 0), way.part(slip, len(rows))])
        self.assertEqual(end.steps.told(), steps.told())
        self.assertEqual(end.steps.many(), floor.steps.many())
        self.assertEqual(end.told()[0], steps.slip)
        self.assertEqual([len(row) for row in end.told()[1]], [steps.wide] * steps.high)

    def test_each_word_with_shifts_near_and_far(self):
        for (rows, slip), word, shift in itertools.product(TOLD, WORDS, SHIFTS):
            self.check(rows, slip, move(word, *shift), AROUND[::3] + FAR_CELLS)

    def test_the_greatest_pieces(self):
        for word in WORDS:
            self.check(long_rows(64, 64, 3), 27, move(word, 5, -9), AROUND[::7])
            self.check(long_rows(64, 1, 5), 27, move(word, -5, 9), AROUND[::7])
            self.check(long_rows(1, 64, 5), 0, move(word, -5, 9), AROUND[::7])

    def test_told_ones(self):
        rows = ["012", "abc"]
        told = {
            "shift": (1, ["012", "abc"]),
            "half": (1, ["021", "bac"]),
            "left": (4, ["0b1c2a"]),
            "right": (4, ["0a2c1b"]),
            "flipx": (2, ["021", "acb"]),
            "flipy": (2, ["012", "bca"]),
            "diag": (2, ["0a2c1b"]),
            "anti": (2, ["0b1c2a"]),
        }
        for word in WORDS:
            self.assertEqual(moved(Floor(rows, 1), move(word)).told(), told[word], word)

    def test_shifts_of_told_ones(self):
        floor = Floor(["012", "abc"], 1)
        self.assertEqual(moved(floor, move("shift", 1, 0)).told(), (1, ["201", "cab"]))
        self.assertEqual(moved(floor, move("shift", 0, 1)).told(), (1, ["bca", "012"]))
        self.assertEqual(moved(floor, move("shift", 3, 0)).told(), floor.told())
        self.assertEqual(moved(floor, move("shift", 1, 2)).told(), floor.told())

    def test_a_floor_of_its_own(self):
        floor = Floor(["012", "abc"], 1)
        end = moved(floor, move("shift"))
        end.told()[1].append("zzz")
        self.assertIsInstance(end, Floor)
        self.assertEqual(end.told(), floor.told())


class MixedTest(unittest.TestCase):
    CHOICES = [
        lambda one, other: one,
        lambda one, other: other,
        lambda one, other: min(one, other),
        lambda one, other: "1" if one == other else "0",
        lambda one, other: COLOURS[(COLOURS.index(one) * 5 + COLOURS.index(other)) % 36],
        lambda one, other: "x",
    ]

    def test_each_cell_by_both_colours(self):
        for (one, other), choice in itertools.product(itertools.product(TOLD, repeat=2), self.CHOICES):
            floor = mixed(Floor(*one), Floor(*other), choice)
            for x, y in AROUND[::5] + FAR_CELLS:
                expected = choice(colour_by_steps(*one, x, y), colour_by_steps(*other, x, y))
                self.assertEqual(floor.at(x, y), expected, (one, other, x, y))

    def test_steps_are_those_that_both_share(self):
        for one, other in itertools.product(TOLD, repeat=2):
            first = Floor(*one)
            second = Floor(*other)
            for choice in self.CHOICES:
                floor = mixed(first, second, choice)
                self.assertEqual(floor.steps.told(), common(first.steps, second.steps).told())
                self.assertEqual(floor.told()[0], floor.steps.slip)
                self.assertEqual(len(floor.told()[1]), floor.steps.high)
            self.assertEqual(first.told(), (one[1], one[0]))
            self.assertEqual(second.told(), (other[1], other[0]))

    def test_told_ones(self):
        both = mixed(Floor(["01"]), Floor(["abc"]), lambda one, other: one if one == "1" else other)
        self.assertEqual(both.told(), (0, ["a1c1b1"]))
        both = mixed(Floor(["01"], 1), Floor(["a", "b"]), lambda one, other: other if one == "0" else one)
        self.assertEqual(both.told(), (0, ["a1", "1b"]))
        both = mixed(Floor(["01"], 1), Floor(["01"]), lambda one, other: "e" if one == other else "u")
        self.assertEqual(both.told(), (0, ["ee", "uu"]))

    def test_a_piece_greater_than_those_handed_in(self):
        one = long_rows(64, 3, 5)
        other = long_rows(63, 5, 11)
        floor = mixed(Floor(one, 7), Floor(other, 9), self.CHOICES[4])
        self.assertEqual(floor.steps.told(), common(Steps(64, 7, 3), Steps(63, 9, 5)).told())
        self.assertEqual(floor.steps.many(), 64 * 3 * 63 * 5)
        for x, y in AROUND[::5] + FAR_CELLS:
            expected = self.CHOICES[4](colour_by_steps(one, 7, x, y), colour_by_steps(other, 9, x, y))
            self.assertEqual(floor.at(x, y), expected)

    def test_only_colours_that_meet_are_chosen_from(self):
        choices = {("0", "a"): "x", ("1", "b"): "y"}
        floor = mixed(Floor(["01"]), Floor(["ab"]), lambda one, other: choices[(one, other)])
        self.assertEqual(floor.told(), (0, ["xy"]))


class RecolouredTest(unittest.TestCase):
    def test_colours_that_are_not_told_stay(self):
        floor = Floor(["012", "abc"], 1)
        self.assertEqual(recoloured(floor, {}).told(), (1, ["012", "abc"]))
        self.assertEqual(recoloured(floor, {"0": "z"}).told(), (1, ["z12", "abc"]))
        self.assertEqual(recoloured(floor, {"9": "z", "b": "b"}).told(), (1, ["012", "abc"]))
        self.assertEqual(recoloured(floor, {"0": "a", "c": "a"}).told(), (1, ["a12", "aba"]))

    def test_all_at_once(self):
        floor = Floor(["0123", "3210"], 2)
        self.assertEqual(recoloured(floor, {"0": "1", "1": "0"}).told(), (2, ["1023", "3201"]))
        self.assertEqual(recoloured(floor, {"0": "1", "1": "2", "2": "3"}).told(), (2, ["1233", "3321"]))
        self.assertEqual(recoloured(floor, {"2": "3", "1": "2", "0": "1", "3": "0"}).told(), (2, ["1230", "0321"]))

    def test_all_colours(self):
        turned = {sign: COLOURS[(k + 13) % 36] for k, sign in enumerate(COLOURS)}
        floor = recoloured(Floor([COLOURS], 5), turned)
        self.assertEqual(floor.told(), (5, [COLOURS[13:] + COLOURS[:13]]))

    def test_steps_are_its_own(self):
        for rows, slip in TOLD:
            table = {sign: "7" for sign in COLOURS}
            floor = recoloured(Floor(rows, slip), table)
            self.assertEqual(floor.steps.told(), (len(rows[0]), slip, len(rows)))
            self.assertEqual(floor.told(), (slip, ["7" * len(row) for row in rows]))

    def test_floor_and_dict_stay(self):
        floor = Floor(["012", "abc"], 1)
        table = {"0": "1", "1": "0", "9": "8"}
        end = recoloured(floor, table)
        self.assertEqual(floor.told(), (1, ["012", "abc"]))
        self.assertEqual(table, {"0": "1", "1": "0", "9": "8"})
        table["2"] = "z"
        table.pop("0")
        self.assertEqual(end.told(), (1, ["102", "abc"]))

    def test_no_colour(self):
        signs = [" ", ".", "A", "Z", "#", "/", ":", "`", "{", "~", "\n", "\t"]
        for wrong in signs + ["", "00", "01", "ab", "0 ", " 0", COLOURS]:
            for table in ({wrong: "0"}, {"0": wrong}, {"9": wrong}, {"0": "1", wrong: "2"}, {"0": "1", "1": wrong}):
                floor = Floor(["012", "abc"], 1)
                kept = dict(table)
                with self.subTest(table=table):
                    with self.assertRaises(FloorError) as caught:
                        recoloured(floor, table)
                    self.assertIs(type(caught.exception), NoColour)
                    self.assertEqual(table, kept)
                    self.assertEqual(floor.told(), (1, ["012", "abc"]))


class PaintedTest(unittest.TestCase):
    def test_each_cell_of_the_piece_by_the_function(self):
        for wide, slip, high in [(1, 0, 1), (5, 3, 1), (1, 0, 6), (4, 1, 3), (64, 63, 64), (100, 7, 2)]:
            steps = Steps(wide, slip, high)

            def colour(x, y):
                return COLOURS[(x * 5 + y * y * 7) % 36]

            floor = painted(steps, colour)
            self.assertIsInstance(floor, Floor)
            self.assertEqual(floor.steps.told(), (wide, slip, high))
            rows = ["".join(colour(x, y) for x in range(wide)) for y in range(high)]
            self.assertEqual(floor.told(), (slip, rows))
            self.assertEqual(steps.told(), (wide, slip, high))

    def test_the_function_is_asked_for_the_piece_alone(self):
        asked = []

        def colour(x, y):
            asked.append((x, y))
            return "0"

        painted(Steps(3, 2, 2), colour)
        self.assertEqual(sorted(asked), [(0, 0), (0, 1), (1, 0), (1, 1), (2, 0), (2, 1)])

    def test_painted_by_another_floor(self):
        for rows, slip in TOLD:
            floor = Floor(rows, slip)
            self.assertEqual(painted(floor.steps, floor.at).told(), floor.told())


if __name__ == "__main__":
    unittest.main()
