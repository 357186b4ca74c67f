import itertools
import random
import unittest

from farfloor.floors import Floor, mixed, moved, painted
from farfloor.least import fault, keeping, least
from farfloor.moves import WORDS, move
from farfloor.steps import Steps, common, made, plainest

FAR = 2 * 10 ** 18
AROUND = list(itertools.product(range(-7, 9), repeat=2))


def keeps(floor, p, q):
    return all(floor.at(x + p, y + q) == floor.at(x, y) for x, y in floor.steps.cells())


def keeping_by_trying(floor):
    # Each step that keeps is one in the piece, but for the floor's own steps.
    return plainest(made(floor.steps) + [(p, q) for p, q in floor.steps.cells() if keeps(floor, p, q)])


def small_floors():
    for wide, high, signs in [(1, 1, "01"), (2, 1, "01"), (1, 2, "01"), (2, 2, "012"), (4, 1, "012"), (3, 2, "01"),
                              (2, 3, "01"), (6, 1, "01"), (1, 6, "01"), (4, 2, "01"), (2, 4, "01")]:
        for cells in itertools.product(signs, repeat=wide * high):
            rows = ["".join(cells[y * wide:(y + 1) * wide]) for y in range(high)]
            for slip in range(wide):
                yield Floor(rows, slip)


def greater_floors():
    # Pieces that repeat within by chosen steps, told by steps that are some times as great.
    chance = random.Random(11)
    for _ in range(60):
        inner = Steps(chance.randint(1, 6), chance.randint(0, 5), chance.randint(1, 6))
        wide = inner.wide * chance.randint(1, 4)
        high = inner.high * chance.randint(1, 4)
        rows = [(wide, 0), (inner.slip * (high // inner.high) + inner.wide * chance.randint(0, 3), high)]
        colours = {cell: chance.choice("01") for cell in inner.cells()}
        yield painted(plainest(rows), lambda x, y: colours[inner.spot(x, y)])


class KeepingTest(unittest.TestCase):
    def test_along_x(self):
        self.assertEqual(keeping(Floor(["0101", "2323"])).told(), (2, 0, 2))
        self.assertEqual(keeping(Floor(["012012"])).told(), (3, 0, 1))
        self.assertEqual(keeping(Floor(["0101", "2222"], 1)).told(), (2, 1, 2))
        self.assertEqual(keeping(Floor(["010101", "012012"], 3)).told(), (6, 3, 2))

    def test_along_y(self):
        self.assertEqual(keeping(Floor(["01", "23", "01", "23"])).told(), (2, 0, 2))
        self.assertEqual(keeping(Floor(["012", "012", "012"])).told(), (3, 0, 1))
        self.assertEqual(keeping(Floor(["0", "1", "2", "0", "1", "2"])).told(), (1, 0, 3))

    def test_aslant(self):
        self.assertEqual(keeping(Floor(["01", "10"])).told(), (2, 1, 1))
        self.assertEqual(keeping(Floor(["012", "201", "120"])).told(), (3, 1, 1))
        self.assertEqual(keeping(Floor(["012", "120", "201"])).told(), (3, 2, 1))
        self.assertEqual(keeping(Floor(["0123", "4567", "2301", "6745"])).told(), (4, 2, 2))
        self.assertEqual(keeping(Floor(["001", "100"], 2)).told(), (3, 1, 1))
        self.assertEqual(keeping(Floor(["0101", "1010"], 2)).told(), (2, 1, 1))

    def test_rows_that_each_match_but_not_by_one_slip(self):
        self.assertEqual(keeping(Floor(["0011", "0101", "0110", "0101"])).told(), (4, 0, 4))
        self.assertEqual(keeping(Floor(["01", "01", "01", "10"])).told(), (2, 0, 4))

    def test_rows_that_tell_the_slip_by_parts(self):
        # One row repeats each 2, the other each 3: together they tell the slip over 6.
        one = "010101"
        other = "011011"
        for slip in range(6):
            rows = [one, other, one[-slip:] + one[:-slip], other[-slip:] + other[:-slip]] if slip else [one, other] * 2
            self.assertEqual(keeping(Floor(rows, 2 * slip)).told(), (6, slip, 2))

    def test_not_at_all(self):
        for told in [(["0"], 0), (["01"], 1), (["012", "345"], 2), (["0", "1", "2"], 0), (["00", "01"], 0)]:
            floor = Floor(*told)
            self.assertEqual(keeping(floor).told(), floor.steps.told())

    def test_one_colour(self):
        for wide, high in [(1, 1), (1, 64), (64, 1), (64, 64), (7, 12)]:
            for slip in (0, 1, 33):
                self.assertEqual(keeping(Floor(["a" * wide] * high, slip)).told(), (1, 0, 1))

    def test_one_long_row(self):
        self.assertEqual(keeping(Floor(["01" * 32], 1)).told(), (2, 1, 1))
        self.assertEqual(keeping(Floor(["01" * 32], 6)).told(), (2, 0, 1))
        self.assertEqual(keeping(Floor(["0" * 63 + "1"], 5)).told(), (64, 5, 1))
        self.assertEqual(keeping(Floor([("0" * 15 + "1") * 4], 37)).told(), (16, 5, 1))
        # Two like ends do not make a row repeat.
        self.assertEqual(keeping(Floor(["0100101001001010010100100101001010010010100100101001"], 0)).told()[0], 52)

    def test_one_long_column(self):
        self.assertEqual(keeping(Floor(["0", "1"] * 32)).told(), (1, 0, 2))
        self.assertEqual(keeping(Floor(["0"] * 63 + ["1"])).told(), (1, 0, 64))
        self.assertEqual(keeping(Floor((["0"] * 15 + ["1"]) * 4, 9)).told(), (1, 0, 16))

    def test_against_trying_all_steps(self):
        for floor in itertools.chain(small_floors(), greater_floors()):
            self.assertEqual(keeping(floor).told(), keeping_by_trying(floor).told(), floor.told())

    def test_one_cell_unlike_in_the_greatest_piece(self):
        rows = ["01" * 32, "10" * 32] * 32
        self.assertEqual(keeping(Floor(rows)).told(), (2, 1, 1))
        rows[63] = rows[63][:63] + "2"
        self.assertEqual(keeping(Floor(rows)).told(), (64, 0, 64))

    def test_floors_that_are_made(self):
        one = Floor(["0" * 30 + "1"], 3)
        other = Floor(["0" * 36 + "1"] + ["0" * 37] * 6, 5)
        floor = mixed(one, other, lambda near, far: max(near, far))
        self.assertEqual(floor.steps.many(), 31 * 37 * 7)
        self.assertEqual(keeping(floor).told(), common(one.steps, other.steps).told())
        self.assertEqual(keeping(mixed(one, other, lambda near, far: far)).told(), (37, 5, 7))
        self.assertEqual(keeping(mixed(one, other, lambda near, far: near)).told(), (31, 3, 1))


class LeastTest(unittest.TestCase):
    def test_told_ones(self):
        self.assertEqual(least(Floor(["0101", "2323"])).told(), (0, ["01", "23"]))
        self.assertEqual(least(Floor(["01", "10"])).told(), (1, ["01"]))
        self.assertEqual(least(Floor(["0123", "4567", "2301", "6745"])).told(), (2, ["0123", "4567"]))
        self.assertEqual(least(Floor(["zz", "zz"], 1)).told(), (0, ["z"]))
        self.assertEqual(least(Floor(["012", "345"], 5)).told(), (2, ["012", "345"]))

    def test_told_by_the_steps_that_keep(self):
        for floor in itertools.chain(small_floors(), greater_floors()):
            told = floor.told()
            end = least(floor)
            self.assertIsInstance(end, Floor)
            self.assertEqual(end.steps.told(), keeping(floor).told())
            self.assertEqual(floor.told(), told)
            self.assertEqual(floor.steps.told(), (len(told[1][0]), told[0], len(told[1])))

    def test_each_cell_has_its_colour(self):
        for floor in list(small_floors())[::17] + list(greater_floors()):
            end = least(floor)
            for x, y in AROUND + [(FAR, -FAR), (1 - FAR, FAR - 3)]:
                self.assertEqual(end.at(x, y), floor.at(x, y), floor.told())

    def test_told_least_again_it_is_the_same(self):
        for floor in itertools.chain(small_floors(), greater_floors()):
            end = least(floor)
            self.assertEqual(least(end).told(), end.told())

    def test_two_tellings_of_one_floor(self):
        for floor in greater_floors():
            end = least(floor)
            wider = Steps(end.steps.wide * 3, end.steps.slip * 2 + end.steps.wide, end.steps.high * 2)
            self.assertEqual(least(painted(wider, floor.at)).told(), end.told())

    def test_two_floors_are_told_least_unlike(self):
        tellings = {}
        cells = list(itertools.product(range(12), repeat=2))
        for floor in small_floors():
            # Within so many cells each two of these floors that differ do so.
            seen = "".join(floor.at(x, y) for x, y in cells)
            slip, rows = least(floor).told()
            self.assertEqual(tellings.setdefault(seen, (slip, rows)), (slip, rows))
        self.assertEqual(len(set((slip, tuple(rows)) for slip, rows in tellings.values())), len(tellings))

    def test_moved_floors(self):
        floor = Floor(["0011", "2001", "1200"], 1)
        for word in WORDS:
            end = moved(floor, move(word, 3, 5))
            self.assertEqual(keeping(end).many(), keeping(floor).many())
            steps = plainest([move(word).part(x, y) for x, y in made(keeping(floor))])
            self.assertEqual(keeping(end).told(), steps.told())


class FaultTest(unittest.TestCase):
    def first(self, floor, p, q):
        for x, y in floor.steps.cells():
            if floor.at(x + p, y + q) != floor.at(x, y):
                return (x, y)
        return None

    def test_told_ones(self):
        floor = Floor(["000", "010"], 1)
        self.assertIsNone(fault(floor, 0, 0))
        self.assertIsNone(fault(floor, 3, 0))
        self.assertIsNone(fault(floor, 1, 2))
        self.assertIsNone(fault(floor, -1, -2))
        self.assertEqual(fault(floor, 1, 0), (0, 1))
        self.assertEqual(fault(floor, -1, 0), (1, 1))
        self.assertEqual(fault(floor, 0, 1), (1, 0))
        self.assertEqual(fault(floor, 1, 1), (0, 0))
        self.assertEqual(fault(Floor(["0" * 64] * 63 + ["0" * 63 + "1"]), 64, 65), (63, 62))

    def test_near_shifts(self):
        for floor in list(small_floors())[::23] + list(greater_floors())[::6]:
            told = floor.told()
            for p, q in AROUND[::3]:
                self.assertEqual(fault(floor, p, q), self.first(floor, p, q), (told, p, q))
            self.assertEqual(floor.told(), told)

    def test_none_just_where_the_step_keeps(self):
        for floor in list(small_floors())[::23] + list(greater_floors())[::6]:
            steps = keeping(floor)
            for p, q in AROUND[::3]:
                self.assertEqual(fault(floor, p, q) is None, steps.holds(p, q), (floor.told(), p, q))

    def test_far_shifts(self):
        floor = Floor(["00110", "01011", "20011"], 3)
        for p, q in [(FAR, FAR), (-FAR, FAR), (FAR - 1, 2 - FAR), (7, -FAR), (FAR - 2, 0)]:
            self.assertEqual(fault(floor, p, q), self.first(floor, p, q))
        times = FAR // 5
        self.assertIsNone(fault(floor, 5 * times, 0))
        self.assertIsNone(fault(floor, -5 * times, 0))
        self.assertIsNone(fault(floor, 3 * times, 3 * times))
        self.assertIsNone(fault(floor, -3 * times - 5, -3 * times))
        self.assertIsNotNone(fault(floor, 3 * times + 1, 3 * times))

    def test_a_pair_or_none(self):
        floor = Floor(["0101", "0101"])
        self.assertEqual(fault(floor, 1, 0), (0, 0))
        self.assertIs(type(fault(floor, 1, 0)), tuple)
        self.assertIs(fault(floor, 2, 1), None)


if __name__ == "__main__":
    unittest.main()
