import itertools
import random
import unittest

from farfloor.errors import BadText, FloorError
from farfloor.floors import COLOURS, Floor, mixed, moved, painted
from farfloor.moves import WORDS, move
from farfloor.steps import Steps
from farfloor.texts import read, written

FAR = 2 * 10 ** 18


class ReadTest(unittest.TestCase):
    def reads(self, text, slip, rows):
        floor = read(text)
        self.assertIsInstance(floor, Floor)
        self.assertEqual(floor.told(), (slip, rows), text)

    def refuses(self, text, row):
        with self.assertRaises(BadText) as caught:
            read(text)
        self.assertIs(type(caught.exception), BadText)
        self.assertIsInstance(caught.exception, FloorError)
        self.assertIs(type(caught.exception.row), int)
        self.assertEqual(caught.exception.row, row, text)

    def test_ordinary_ones(self):
        self.reads("slip 0\n0", 0, ["0"])
        self.reads("slip 1\n012\nabc", 1, ["012", "abc"])
        self.reads("slip 2\n012\nabc\n", 2, ["012", "abc"])
        self.reads("slip 3\n" + COLOURS, 3, [COLOURS])
        self.assertEqual(read("slip 1\n012\nabc").at(0, 2), "2")

    def test_figures_of_the_slip(self):
        self.reads("slip 00\n012", 0, ["012"])
        self.reads("slip 01\n012", 1, ["012"])
        self.reads("slip 000000002\n012", 2, ["012"])
        self.reads("slip 000000000\n012", 0, ["012"])
        for many in range(1, 10):
            self.reads("slip " + "9" * many + "\n" + "0" * 63 + "1", int("9" * many) % 64, ["0" * 63 + "1"])
        self.reads("slip 123456789\n0123456789", 9, ["0123456789"])
        self.refuses("slip 1234567890\n0123456789", 1)
        self.refuses("slip 0000000000\n0", 1)
        self.refuses("slip 0000000001\n01", 1)
        self.refuses("slip " + "0" * 70 + "\n01", 1)

    def test_a_slip_greater_than_the_rows(self):
        self.reads("slip 7\n012\nabc", 1, ["012", "abc"])
        self.reads("slip 3\n012", 0, ["012"])
        self.reads("slip 999999999\n0", 0, ["0"])

    def test_a_first_row_that_tells_no_slip(self):
        for head in [
            "slip", "slip ", "slip  ", "slip  0", "slip   12", "slip0", "slip\t0", "slip \t0", "slip 0\t", "slip 0\t ",
            " slip 0", "\tslip 0", "  slip 0", "Slip 0", "SLIP 0", "slip: 0", "slap 0", "lip 0", "slips 0",
            "slipslip 0", "slip slip 0", "slip -1", "slip +1", "slip - 1", "slip 1 2", "slip 1 0 ", "slip 1\t2",
            "slip 1.", "slip 1.0", "slip 1_0", "slip 0x1", "slip a", "slip 1a", "slip a1", "slip N", "slip 1#",
            "slip 1 #", "slip #", "#", "# slip 0", "#slip 0", "", " ", "    ", "\t", "0", "012", "12345",
            "slip 1e3", "slip ,", "slip (1)", "slip 1;", "slip '1'",
        ]:
            self.refuses(head + "\n012\nabc", 1)
            self.refuses(head + "\n", 1)
            self.refuses(head, 1)
            self.refuses(head + "\nslip 0\n012", 1)
            self.refuses(head + "\n0 1", 1)

    def test_the_empty_text_and_no_first_row(self):
        self.refuses("", 1)
        self.refuses("\n", 1)
        self.refuses("\nslip 0\n012", 1)
        self.refuses("\n\n\n", 1)
        self.refuses(" ", 1)
        self.refuses("# remark\nslip 0\n012", 1)

    def test_no_row_of_cells(self):
        self.refuses("slip 0", 2)
        self.refuses("slip 0   ", 2)
        self.refuses("slip 0\n", 3)
        self.refuses("slip 0\n\n", 4)
        self.refuses("slip 0\n   ", 3)
        self.refuses("slip 0\n# remark", 3)
        self.refuses("slip 0\n# remark\n", 4)
        self.refuses("slip 0\n\n#\n  \n#012\n", 7)
        self.refuses("slip 0" + "\n" * 99, 101)
        self.refuses("slip 0" + "\n#" * 99, 101)

    def test_blanks_at_the_end_of_a_row(self):
        self.reads("slip 1 \n012\nabc", 1, ["012", "abc"])
        self.reads("slip 1     \n012   \nabc \n", 1, ["012", "abc"])
        self.reads("slip 1\n012\n   \nabc\n  ", 1, ["012", "abc"])
        self.reads("slip 1\n# remark   \n012\n#  \nabc", 1, ["012", "abc"])
        self.reads("slip 123456789" + " " * 9 + "\n0" + " " * 99, 0, ["0"])
        self.reads("slip 0\n" + "0" * 64 + "  \n" + "1" * 64 + " " * 64, 0, ["0" * 64, "1" * 64])

    def test_tabs_at_the_end_of_a_row(self):
        self.refuses("slip 1\t\n012", 1)
        self.refuses("slip 1\n012\t\nabc", 2)
        self.refuses("slip 1\n012\nabc\t", 3)
        self.refuses("slip 1\n012\nabc\t  ", 3)
        self.refuses("slip 1\n012\nabc  \t", 3)
        self.refuses("slip 1\n012\n\t\nabc", 3)
        self.refuses("slip 1\n012\n  \t\nabc", 3)
        self.refuses("slip 1\n012\nabc\n\t", 4)
        self.refuses("slip 1\n\t", 2)
        self.reads("slip 1\n#\t\n012\n#\tremark\t \nabc", 1, ["012", "abc"])

    def test_rows_that_are_passed_over(self):
        self.reads("slip 1\n\n012\n\n\nabc\n\n", 1, ["012", "abc"])
        self.reads("slip 1\n#\n012\n# ABC\n#012\n##\nabc\n# end", 1, ["012", "abc"])
        self.reads("slip 1\n# a row of signs: ~!@$ and more than sixty-four of them, " + "x" * 99 + "\n012", 1, ["012"])
        self.reads("slip 1" + "\n" * 70 + "012" + "\n" * 70 + "abc" + "\n" * 70, 1, ["012", "abc"])
        self.reads("slip 1" + "\n# remark" * 70 + "\n012" + "\n#" * 70 + "\nabc" + "\n  " * 70, 1, ["012", "abc"])
        self.reads("slip 0" + "\n01\n#\n" * 64, 0, ["01"] * 64)

    def test_a_blank_ahead(self):
        self.refuses("slip 0\n #\n012", 2)
        self.refuses("slip 0\n012\n # remark", 3)
        self.refuses("slip 0\n 012", 2)
        self.refuses("slip 0\n012\n 12", 3)
        self.refuses("slip 0\n012\n\t#", 3)
        self.refuses("slip 0\n012\n\tab", 3)

    def test_signs_that_are_no_colours(self):
        others = [sign for sign in map(chr, range(32, 127)) if sign not in COLOURS] + ["\t"]
        for sign in others:
            self.refuses(f"slip 0\n012\n0{sign}2\n", 3)
            self.refuses(f"slip 0\n0{sign}2\n012\n", 2)
            if sign not in "# ":
                self.refuses(f"slip 0\n012\n\n{sign}12\n", 4)
                self.refuses(f"slip 0\n#\n012\n01{sign}\n", 4)
        self.assertEqual(len(others), 60)
        self.refuses("slip 0\n012\nslip 0\n012", 3)
        self.refuses("slip 0\nABC", 2)
        self.refuses("slip 0\n...", 2)
        self.refuses("slip 0\n012 # remark", 2)
        self.refuses("slip 0\n012#", 2)

    def test_lengths(self):
        self.reads("slip 0\n" + "0" * 64, 0, ["0" * 64])
        self.refuses("slip 0\n" + "0" * 65, 2)
        self.refuses("slip 0\n" + "0" * 200, 2)
        self.refuses("slip 0\n" + "0" * 65 + "\n" + "0" * 65, 2)
        self.refuses("slip 0\n" + "0" * 64 + "\n" + "0" * 65, 3)
        self.refuses("slip 0\n" + "0" * 64 + "\n" + "0" * 63, 3)
        self.refuses("slip 0\n012\n01", 3)
        self.refuses("slip 0\n012\n0123", 3)
        self.refuses("slip 0\n0\n00", 3)
        self.refuses("slip 0\n012\n012\n# remark\n\n01\n0123", 6)
        self.refuses("slip 0\n01\n012\n01", 3)

    def test_many_rows(self):
        rows = [COLOURS[k % 36] + COLOURS[k // 36] for k in range(64)]
        text = "slip 1\n" + "\n".join(rows)
        self.reads(text, 1, rows)
        self.reads(text + "\n", 1, rows)
        self.reads(text + "\n# behind\n\n  \n#", 1, rows)
        self.refuses(text + "\n00", 66)
        self.refuses(text + "\n\n#\n00\n", 68)
        self.refuses(text + "\n00\n00", 66)
        self.refuses(text + "\n0", 66)
        self.refuses(text + "\nA", 66)
        self.refuses("slip 1\n#\n" + "\n".join(rows) + "\n00", 67)

    def test_the_first_wrong_row_is_told(self):
        self.refuses("slip x\n0A\n", 1)
        self.refuses("slip 0\n01\nA\n012\n\t", 3)
        self.refuses("slip 0\n01\n012\nAA", 3)
        self.refuses("slip 0\n\n\n0A\n01", 4)
        self.refuses("slip 0\n01\n" + "01\n" * 62 + "0\n01\n01", 65)

    def test_the_greatest(self):
        rows = ["".join(COLOURS[(x * y) % 36] for x in range(64)) for y in range(64)]
        self.reads("slip 63\n" + "\n".join(rows), 63, rows)


class WrittenTest(unittest.TestCase):
    def test_told_ones(self):
        self.assertEqual(written(Floor(["0"])), "slip 0\n0")
        self.assertEqual(written(Floor(["012", "abc"], 1)), "slip 1\n012\nabc")
        self.assertEqual(written(Floor([COLOURS], 35)), "slip 35\n" + COLOURS)
        self.assertIs(type(written(Floor(["0"]))), str)

    def test_the_slip_s_rest(self):
        self.assertEqual(written(Floor(["012"], 5)), "slip 2\n012")
        self.assertEqual(written(Floor(["012"], -1)), "slip 2\n012")
        self.assertEqual(written(Floor(["012"], 3)), "slip 0\n012")
        self.assertEqual(written(Floor(["0123456"], FAR)), f"slip {FAR % 7}\n0123456")
        self.assertEqual(written(Floor(["0123456"], -FAR)), f"slip {-FAR % 7}\n0123456")

    def test_a_floor_as_it_is_told(self):
        # A piece that repeats within is written whole.
        self.assertEqual(written(Floor(["0101", "0101"], 2)), "slip 2\n0101\n0101")

    def test_greater_than_what_is_read(self):
        wide = painted(Steps(100, 99, 1), lambda x, y: COLOURS[x % 36])
        self.assertEqual(written(wide), "slip 99\n" + (COLOURS * 3)[:100])
        high = painted(Steps(1, 0, 100), lambda x, y: COLOURS[y % 36])
        self.assertEqual(written(high), "slip 0\n" + "\n".join((COLOURS * 3)[:100]))
        both = mixed(Floor(["01" * 20 + "1"] * 2), Floor(["0", "1", "1"] * 23), max)
        self.assertEqual(written(both).split("\n")[1:], both.told()[1])
        for floor, row in [(wide, 2), (high, 66)]:
            with self.assertRaises(BadText) as caught:
                read(written(floor))
            self.assertEqual(caught.exception.row, row)

    def test_read_again_it_is_the_same(self):
        chance = random.Random(26)
        for _ in range(300):
            wide = chance.choice([1, 2, 3, 7, 63, 64])
            high = chance.choice([1, 2, 3, 7, 63, 64])
            rows = ["".join(chance.choice(COLOURS) for _ in range(wide)) for _ in range(high)]
            floor = Floor(rows, chance.choice([0, 1, -1, wide - 1, chance.randint(-FAR, FAR)]))
            again = read(written(floor))
            self.assertEqual(again.told(), floor.told())
            self.assertEqual(again.steps.told(), floor.steps.told())
            self.assertEqual(written(again), written(floor))

    def test_moved_ones_are_read_again(self):
        floor = Floor(["0012", "3045", "0060"], 1)
        for word, (p, q) in itertools.product(WORDS, [(0, 0), (5, -3), (FAR, FAR)]):
            end = moved(floor, move(word, p, q))
            self.assertEqual(read(written(end)).told(), end.told())

    def test_what_is_handed_in_stays(self):
        floor = Floor(["012", "abc"], 1)
        written(floor)
        self.assertEqual(floor.told(), (1, ["012", "abc"]))


if __name__ == "__main__":
    unittest.main()
