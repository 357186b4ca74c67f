import itertools
import random
import unittest

from farfloor.finds import places, window
from farfloor.floors import Floor, mixed, moved, painted
from farfloor.moves import WORDS, move
from farfloor.steps import Steps

FAR = 2 * 10 ** 18


def stands(floor, rows, x, y):
    for up, row in enumerate(rows):
        for along, sign in enumerate(row):
            if sign not in (".", floor.at(x + along, y + up)):
                return False
    return True


def places_by_trying(floor, rows):
    return [(x, y) for x, y in floor.steps.cells() if stands(floor, rows, x, y)]


def any_rows(chance, widest, highest, signs):
    wide = chance.randint(1, widest)
    return ["".join(chance.choice(signs) for _ in range(wide)) for _ in range(chance.randint(1, highest))]


class PlacesTest(unittest.TestCase):
    def setUp(self):
        self.floor = Floor(["0012", "3045", "0060"], 1)

    def check(self, floor, rows):
        before = (floor.told(), list(rows))
        found = places(floor, rows)
        self.assertEqual(found, places_by_trying(floor, rows), before)
        self.assertEqual((floor.told(), rows), before)
        return found

    def test_within_the_piece(self):
        self.assertEqual(places(self.floor, ["012"]), [(1, 0)])
        self.assertEqual(places(self.floor, ["01", "04"]), [(1, 0)])
        self.assertEqual(places(self.floor, ["0012", "3045", "0060"]), [(0, 0)])

    def test_over_the_edge_in_x(self):
        self.assertEqual(places(self.floor, ["200"]), [(3, 0)])
        self.assertEqual(places(self.floor, ["53", "00"]), [(3, 1)])
        self.assertEqual(places(self.floor, ["2001200"]), [(3, 0)])

    def test_over_the_edge_in_y(self):
        # Above the last row the first one stands again, one cell further along x.
        self.assertEqual(places(self.floor, ["0060", "2001"]), [(0, 2)])
        self.assertEqual(places(self.floor, ["6", "0"]), [(2, 2)])
        self.assertEqual(places(self.floor, ["5", "0", "2"]), [])
        self.assertEqual(places(self.floor, ["3", "0", "2"]), [(0, 1)])
        self.assertEqual(places(self.floor, ["0", "3", "0", "2", "5"]), [(0, 0)])

    def test_over_both_edges(self):
        self.assertEqual(places(self.floor, ["00", "12"]), [(3, 2)])
        self.assertEqual(places(self.floor, ["00", "12", "4."]), [(3, 2)])

    def test_greater_than_the_piece(self):
        for x, y in [(0, 0), (3, 2), (1, 1)]:
            rows = window(self.floor, x, y, 13, 11)
            self.assertEqual(places(self.floor, rows), [(x, y)])
            rows[10] = rows[10][:12] + "z"
            self.assertEqual(places(self.floor, rows), [])
        self.assertEqual(places(Floor(["0"]), ["0" * 64] * 64), [(0, 0)])
        self.assertEqual(places(Floor(["0"]), ["0" * 64] * 63 + ["0" * 63 + "1"]), [])
        self.assertEqual(places(Floor(["01"], 1), ["0101", "1010", "0101"]), [(0, 0)])
        self.assertEqual(places(Floor(["01"], 1), ["0101", "0101"]), [])

    def test_points_alone(self):
        for rows in [["."], ["..."], [".", "."], ["." * 64] * 64]:
            self.assertEqual(places(self.floor, rows), self.floor.steps.cells())

    def test_with_points(self):
        self.assertEqual(places(self.floor, ["0."]), [(0, 0), (1, 0), (1, 1), (0, 2), (1, 2), (3, 2)])
        self.assertEqual(places(self.floor, [".0"]), [(0, 0), (3, 0), (0, 1), (0, 2), (2, 2), (3, 2)])
        self.assertEqual(places(self.floor, ["0.2", "..5"]), [(1, 0)])
        self.assertEqual(places(self.floor, ["..", ".4"]), [(1, 0)])
        self.assertEqual(places(self.floor, ["...6", "...."]), [(3, 2)])

    def test_one_sign(self):
        self.assertEqual(places(self.floor, ["6"]), [(2, 2)])
        self.assertEqual(places(self.floor, ["0"]), [(0, 0), (1, 0), (1, 1), (0, 2), (1, 2), (3, 2)])
        self.assertEqual(places(self.floor, ["z"]), [])

    def test_nowhere(self):
        self.assertEqual(places(self.floor, ["000000"]), [])
        self.assertEqual(places(self.floor, ["21"]), [])
        self.assertEqual(places(self.floor, ["9."]), [])
        self.assertIs(type(places(self.floor, ["9"])), list)

    def test_the_floor_s_own_piece_counts(self):
        # Not the least one: each cell of a piece that repeats within is told.
        self.assertEqual(places(Floor(["0101", "0101"]), ["1"]), [(1, 0), (3, 0), (1, 1), (3, 1)])
        self.assertEqual(places(Floor(["00", "00"], 1), ["0"]), [(0, 0), (1, 0), (0, 1), (1, 1)])

    def test_against_each_cell(self):
        chance = random.Random(21)
        stood = 0
        for _ in range(1500):
            floor = Floor(any_rows(chance, 6, 5, "001"), chance.randint(-9, 9))
            stood += len(self.check(floor, any_rows(chance, 8, 7, "00...1"[chance.randint(0, 5):] + "..")))
            stood += len(self.check(floor, any_rows(chance, 3, 2, "01.")))
            rows = window(floor, chance.randint(-9, 9), chance.randint(-9, 9), chance.randint(1, 12), 3)
            stood += len(self.check(floor, [row.replace("0", chance.choice("0.")) for row in rows]))
        self.assertGreater(stood, 4000)

    def test_one_row_and_one_column(self):
        chance = random.Random(22)
        for _ in range(200):
            signs = "".join(chance.choice("01") for _ in range(chance.randint(1, 12)))
            for floor in [Floor([signs], chance.randint(0, 9)), Floor(list(signs))]:
                self.check(floor, any_rows(chance, 3, 3, "01."))
                self.check(floor, ["".join(chance.choice("01.") for _ in range(5))])
                self.check(floor, [chance.choice("01.") for _ in range(5)])

    def test_far_slips(self):
        for slip in (FAR, -FAR, FAR - 1, 3 - FAR):
            self.check(Floor(["0012", "3045", "0060"], slip), ["06", "0.", ".."])
            self.check(Floor(["0012301"], slip), ["0", "1", "."])

    def test_the_greatest_pieces(self):
        chance = random.Random(23)
        floor = Floor(["".join(chance.choice("01") for _ in range(64)) for _ in range(64)], 17)
        for x, y in [(0, 0), (63, 63), (40, 9)]:
            rows = window(floor, x, y, 64, 64)
            self.assertEqual(places(floor, rows), [(x, y)])
            self.assertEqual(places(floor, [row.replace("0", ".") for row in rows]), [(x, y)])
        self.assertEqual(len(places(Floor(["0" * 64] * 64, 5), ["0" * 64] * 64)), 4096)
        self.check(floor, ["0101", "..1."])

    def test_floors_that_are_made(self):
        floor = mixed(Floor(["0" * 30 + "1"], 3), Floor(["0" * 36 + "1"] + ["0" * 37] * 6, 5), max)
        self.check(floor, ["1", "."])
        self.assertNotEqual(self.check(floor, ["1.1"]), [])
        for word in WORDS:
            self.check(moved(Floor(["0012", "3045", "0060"], 1), move(word, 2, 3)), ["0.", ".0"])

    def test_a_new_list_of_pairs_each_time(self):
        found = places(self.floor, ["0"])
        self.assertTrue(all(type(cell) is tuple and len(cell) == 2 for cell in found))
        found.clear()
        self.assertEqual(len(places(self.floor, ["0"])), 6)

    def test_what_is_handed_in_stays(self):
        rows = ["0.", ".4"]
        places(self.floor, rows)
        self.assertEqual(rows, ["0.", ".4"])
        self.assertEqual(self.floor.told(), (1, ["0012", "3045", "0060"]))


class WindowTest(unittest.TestCase):
    def setUp(self):
        self.floor = Floor(["0012", "3045", "0060"], 1)

    def check(self, floor, x, y, wide, high):
        end = ["".join([floor.at(x + along, y + up) for along in range(wide)]) for up in range(high)]
        self.assertEqual(window(floor, x, y, wide, high), end, (floor.told(), x, y, wide, high))

    def test_told_ones(self):
        self.assertEqual(window(self.floor, 0, 0, 4, 3), ["0012", "3045", "0060"])
        self.assertEqual(window(self.floor, 1, 1, 2, 2), ["04", "06"])
        self.assertEqual(window(self.floor, 3, 2, 2, 2), ["00", "12"])
        self.assertEqual(window(self.floor, -1, -1, 3, 2), ["006", "200"])
        self.assertEqual(window(self.floor, 0, 3, 4, 1), ["2001"])
        self.assertEqual(window(self.floor, 0, -3, 4, 1), ["0120"])

    def test_near_ones(self):
        for x, y in itertools.product(range(-6, 7), repeat=2):
            for wide, high in [(1, 1), (3, 2), (4, 3), (5, 4), (13, 1), (1, 13)]:
                self.check(self.floor, x, y, wide, high)

    def test_far_ones(self):
        for x, y in itertools.product((FAR, -FAR, FAR - 5, 7 - FAR), repeat=2):
            self.check(self.floor, x, y, 9, 8)

    def test_wider_and_higher_than_the_piece(self):
        self.assertEqual(window(Floor(["0"]), 5, 5, 7, 2), ["0000000", "0000000"])
        self.assertEqual(window(Floor(["01"], 1), 0, 0, 5, 3), ["01010", "10101", "01010"])
        self.check(self.floor, -20, -30, 40, 50)

    def test_nought_wide(self):
        self.assertEqual(window(self.floor, 3, 4, 0, 3), ["", "", ""])
        self.assertEqual(window(self.floor, 3, 4, 0, 64), [""] * 64)

    def test_nought_high(self):
        self.assertEqual(window(self.floor, 3, 4, 5, 0), [])
        self.assertEqual(window(self.floor, 3, 4, 64, 0), [])
        self.assertEqual(window(self.floor, 3, 4, 0, 0), [])

    def test_the_greatest(self):
        self.check(self.floor, -31, -33, 64, 64)
        chance = random.Random(24)
        floor = Floor(["".join(chance.choice("0123") for _ in range(64)) for _ in range(64)], 9)
        self.check(floor, 0, 0, 64, 64)
        self.check(floor, 63, 63, 64, 64)
        self.check(floor, -FAR, FAR, 64, 64)

    def test_any(self):
        chance = random.Random(25)
        for _ in range(300):
            floor = Floor(any_rows(chance, 7, 5, "0123"), chance.randint(-20, 20))
            x, y = chance.randint(-99, 99), chance.randint(-99, 99)
            self.check(floor, x, y, chance.randint(0, 15), chance.randint(0, 12))

    def test_painted_again_it_is_the_floor(self):
        steps = Steps(5, 2, 4)
        floor = painted(steps, lambda x, y: "0" if (x * y) % 3 == 1 else "1")
        self.assertEqual(window(floor, 0, 0, 5, 4), floor.told()[1])

    def test_a_new_list_each_time(self):
        rows = window(self.floor, 0, 0, 4, 3)
        self.assertIs(type(rows), list)
        rows.clear()
        self.assertEqual(window(self.floor, 0, 0, 4, 3), ["0012", "3045", "0060"])
        self.assertEqual(self.floor.told(), (1, ["0012", "3045", "0060"]))


if __name__ == "__main__":
    unittest.main()
