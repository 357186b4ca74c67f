import itertools
import math
import random
import unittest

from farfloor.floors import COLOURS, Floor, mixed, moved, painted, recoloured
from farfloor.kin import carrier, keepers, same, unlike
from farfloor.least import keeping, least
from farfloor.moves import WORDS, Move, back, behind, move
from farfloor.steps import Steps, common, made, plainest

FAR = 2 * 10 ** 18
FAR_SHIFTS = [(FAR, -FAR), (-FAR, FAR - 1), (3 - FAR, 2 - FAR), (FAR, FAR), (0, FAR)]


def box(one, other):
    # Along each line a floor repeats after as many cells as its piece has.
    side = math.lcm(one.steps.many(), other.steps.many())
    return [(x, y) for y in range(side) for x in range(side)]


def first_wrong(one, other, way, cells):
    for x, y in cells:
        if one.at(x, y) != other.at(*way.to(x, y)):
            return (x, y)
    return None


def leads(one, other, way):
    return first_wrong(one, other, way, box(one, other)) is None


def all_leading(one, other):
    cells = box(one, other)
    ways = [move(word, p, q) for word in WORDS for p, q in least(other).steps.cells()]
    return [way.told() for way in ways if first_wrong(one, other, way, cells) is None]


def shared_piece(one, other, way):
    undoing = back(way)
    return common(one.steps, plainest([undoing.part(x, y) for x, y in made(other.steps)]))


def any_floor(chance, widest, highest, signs):
    wide = chance.randint(1, widest)
    rows = ["".join(chance.choice(signs) for _ in range(wide)) for _ in range(chance.randint(1, highest))]
    return Floor(rows, chance.randint(-9, 9))


def small_floors():
    for wide, high in [(1, 1), (2, 1), (1, 2), (3, 1), (1, 3), (2, 2), (4, 1), (5, 1), (1, 4), (3, 2), (2, 3)]:
        for cells in itertools.product("01", repeat=wide * high):
            rows = ["".join(cells[y * wide:(y + 1) * wide]) for y in range(high)]
            for slip in range(wide):
                yield Floor(rows, slip)


def chosen_floors():
    chance = random.Random(13)
    return [any_floor(chance, 4, 4, "001") for _ in range(40)] + [any_floor(chance, 4, 3, "012") for _ in range(20)]


def retold(floor, times, turn, up):
    # The same floor told by a greater piece: wider, higher, and with a slip of its own.
    steps = floor.steps
    return painted(Steps(steps.wide * times, steps.slip * up + steps.wide * turn, steps.high * up), floor.at)


def with_one_changed(floor, x, y, sign):
    slip, rows = floor.told()
    rows[y] = rows[y][:x] + sign + rows[y][x + 1:]
    return Floor(rows, slip)


def all_eight(floor):
    # Mixed with each of its moved ones, a floor is kept by each of the words without a shift.
    for way in [move("flipx"), move("flipy"), move("diag")]:
        floor = mixed(floor, moved(floor, way), max)
    return floor


class KeepersTest(unittest.TestCase):
    def test_none_but_the_shift(self):
        self.assertEqual(keepers(Floor(["012", "345", "678"])), [("shift", 0, 0)])
        self.assertEqual(keepers(Floor(["012", "345"], 1)), [("shift", 0, 0)])
        self.assertEqual(keepers(Floor(["0010", "0111", "0000", "0100"])), [("shift", 0, 0)])

    def test_one_colour(self):
        end = [(word, 0, 0) for word in WORDS]
        for floor in [Floor(["a"]), Floor(["aa", "aa"], 1), Floor(["z" * 64] * 64, 7), Floor(["0"] * 64)]:
            self.assertEqual(keepers(floor), end)

    def test_all_eight_words(self):
        self.assertEqual(keepers(Floor(["000", "010", "000"])), [
            ("shift", 0, 0), ("half", 2, 2), ("left", 2, 0), ("right", 0, 2),
            ("flipx", 2, 0), ("flipy", 0, 2), ("diag", 0, 0), ("anti", 2, 2),
        ])
        self.assertEqual(keepers(Floor(["01"], 1)), [(word, 0, 0) for word in WORDS])

    def test_turned_but_not_flipped(self):
        # Each "1" stands at a knight's leap from the next.
        self.assertEqual(keepers(Floor(["01111"], 2)), [(word, 0, 0) for word in ("shift", "half", "left", "right")])
        self.assertEqual(keepers(Floor(["01"])), [(word, 0, 0) for word in ("shift", "half", "flipx", "flipy")])

    def test_shifts_that_are_not_nought(self):
        self.assertEqual(keepers(Floor(["0123"])), [("shift", 0, 0), ("flipy", 0, 0)])
        self.assertEqual(keepers(Floor(["0011"])), [("shift", 0, 0), ("half", 1, 0), ("flipx", 1, 0), ("flipy", 0, 0)])
        self.assertEqual(keepers(Floor(["0", "0", "1", "1"])), [
            ("shift", 0, 0), ("half", 0, 1), ("flipx", 0, 0), ("flipy", 0, 1),
        ])
        # A flip that keeps the floor only with half a step along its mirror.
        self.assertEqual(keepers(Floor(["0012", "0112", "2100", "2110"])), [("shift", 0, 0), ("flipx", 3, 2)])

    def test_slips(self):
        self.assertEqual(keepers(Floor(["0001"], 2)), [
            ("shift", 0, 0), ("half", 2, 0), ("flipx", 2, 0), ("flipy", 0, 0),
        ])
        # "1" stands where x is 3 and y, and then where x and y are 3, the rest over 4.
        self.assertEqual(keepers(Floor(["0001"], 1)), [
            ("shift", 0, 0), ("half", 2, 0), ("diag", 2, 0), ("anti", 0, 0),
        ])
        self.assertEqual(keepers(Floor(["0001"], 3)), [
            ("shift", 0, 0), ("half", 2, 0), ("diag", 0, 0), ("anti", 2, 0),
        ])
        self.assertEqual(keepers(Floor(["0011"], 1 + 4 * 10 ** 17)), keepers(Floor(["0011"], 1)))

    def test_a_piece_that_repeats_within(self):
        floor = Floor(["0011"], 2)
        for times, turn, up in [(1, 0, 1), (2, 0, 1), (1, 0, 3), (2, 1, 2), (3, 2, 5)]:
            self.assertEqual(keepers(retold(floor, times, turn, up)), keepers(floor))
        # The shift lies in the least piece, not in the piece that is told.
        self.assertEqual(keepers(Floor(["001001", "001001"])), [
            ("shift", 0, 0), ("half", 1, 0), ("flipx", 1, 0), ("flipy", 0, 0),
        ])

    def test_one_long_row_and_one_long_column(self):
        row = "0" * 50 + "1" + "0" * 13
        self.assertEqual(keepers(Floor([row])), [
            ("shift", 0, 0), ("half", 36, 0), ("flipx", 36, 0), ("flipy", 0, 0),
        ])
        self.assertEqual(keepers(Floor(list(row))), [
            ("shift", 0, 0), ("half", 0, 36), ("flipx", 0, 0), ("flipy", 0, 36),
        ])
        self.assertEqual(keepers(Floor([row], 1)), [
            ("shift", 0, 0), ("half", 36, 0), ("diag", 36, 0), ("anti", 0, 0),
        ])
        self.assertEqual(keepers(Floor([COLOURS])), [("shift", 0, 0), ("flipy", 0, 0)])
        self.assertEqual(keepers(Floor(list(COLOURS))), [("shift", 0, 0), ("flipx", 0, 0)])
        self.assertEqual(keepers(Floor([COLOURS], 1)), [("shift", 0, 0), ("anti", 0, 0)])
        self.assertEqual(keepers(Floor([COLOURS], -1)), [("shift", 0, 0), ("diag", 0, 0)])

    def test_against_every_word_and_shift(self):
        for floor in itertools.chain(small_floors(), chosen_floors()):
            told = floor.told()
            self.assertEqual(keepers(floor), all_leading(floor, floor), told)
            self.assertEqual(floor.told(), told)

    def test_each_move_that_keeps_is_one_of_them_and_a_shift(self):
        for floor in [Floor(["0011"], 2), Floor(["000", "010", "000"]), Floor(["01111"], 2), Floor(["0012", "0210"])]:
            steps = keeping(floor)
            found = keepers(floor)
            for word, p, q in itertools.product(WORDS, range(-5, 6), range(-5, 6)):
                keeping_ones = [one for one in found if one[0] == word and steps.holds(p - one[1], q - one[2])]
                self.assertEqual(len(keeping_ones), 1 if leads(floor, floor, move(word, p, q)) else 0)

    def test_a_shift_that_keeps_behind_them(self):
        chance = random.Random(14)
        for floor in chosen_floors()[::3]:
            for word, p, q in keepers(floor):
                for near in (1, -3, 7, FAR // 5, -FAR // 7):
                    far = chance.randint(-FAR // 9, FAR // 9)
                    steps = keeping(floor)
                    shift = move("shift", near * steps.wide + far * steps.slip, far * steps.high)
                    way = behind(move(word, p, q), shift)
                    self.assertIsNone(unlike(floor, floor, way))
                    self.assertTrue(leads(floor, floor, way))

    def test_a_new_list_of_tuples_each_time(self):
        floor = Floor(["000", "010", "000"])
        found = keepers(floor)
        self.assertIs(type(found), list)
        for one in found:
            self.assertIs(type(one), tuple)
            self.assertEqual([type(part) for part in one], [str, int, int])
        found.clear()
        self.assertEqual(len(keepers(floor)), 8)

    def test_the_greatest_pieces(self):
        chance = random.Random(15)
        rows = ["".join(chance.choice("01") for _ in range(64)) for _ in range(64)]
        floor = Floor(rows)
        self.assertEqual(keepers(floor), [("shift", 0, 0)])
        whole = all_eight(floor)
        self.assertEqual(keepers(whole), [(word, 0, 0) for word in WORDS])
        aside = moved(whole, move("shift", 5, 11))
        found = keepers(aside)
        self.assertEqual(found, [
            ("shift", 0, 0), ("half", 10, 22), ("left", 16, 6), ("right", 58, 16),
            ("flipx", 10, 0), ("flipy", 0, 22), ("diag", 58, 6), ("anti", 16, 16),
        ])
        for one in found:
            self.assertIsNone(first_wrong(aside, aside, move(*one), aside.steps.cells()))
        odd = with_one_changed(aside, 63, 63, "2")
        self.assertEqual(keepers(odd), [("shift", 0, 0)])

    def test_floors_that_are_made(self):
        one = Floor(["0" * 20 + "1"], 2)
        other = Floor(["0001", "0000", "0000"], 1)
        floor = mixed(one, other, max)
        self.assertEqual(keeping(floor).told(), floor.steps.told())
        self.assertEqual(floor.steps.many(), 21 * 12)
        for told in keepers(floor):
            self.assertIsNone(first_wrong(floor, floor, move(*told), floor.steps.cells()))
        self.assertEqual([told[0] for told in keepers(floor)], ["shift", "half"])


class CarrierTest(unittest.TestCase):
    def check(self, one, other):
        before = (one.told(), other.told())
        way = carrier(one, other)
        self.assertIsInstance(way, Move)
        self.assertTrue(leads(one, other, way), before)
        self.assertEqual(way.to(0, 0), keeping(other).spot(*way.to(0, 0)))
        self.assertEqual((one.told(), other.told()), before)
        return way.told()

    def test_told_ones(self):
        floor = Floor(["012", "345", "678"])
        self.assertEqual(carrier(floor, floor).told(), ("shift", 0, 0))
        self.assertEqual(carrier(floor, Floor(["201", "534", "867"])).told(), ("shift", 1, 0))
        self.assertEqual(carrier(floor, Floor(["678", "012", "345"])).told(), ("shift", 0, 1))
        self.assertEqual(carrier(floor, Floor(["876", "543", "210"])).told(), ("half", 2, 2))
        self.assertEqual(carrier(floor, Floor(["630", "741", "852"])).told(), ("left", 2, 0))
        self.assertEqual(carrier(floor, Floor(["258", "147", "036"])).told(), ("right", 0, 2))
        self.assertEqual(carrier(floor, Floor(["210", "543", "876"])).told(), ("flipx", 2, 0))
        self.assertEqual(carrier(floor, Floor(["678", "345", "012"])).told(), ("flipy", 0, 2))
        self.assertEqual(carrier(floor, Floor(["036", "147", "258"])).told(), ("diag", 0, 0))
        self.assertEqual(carrier(floor, Floor(["852", "741", "630"])).told(), ("anti", 2, 2))

    def test_each_word_with_shifts_near_and_far(self):
        floor = Floor(["0010", "0111", "2000"], 1)
        for word in WORDS:
            for p, q in [(0, 0), (1, 2), (-5, 3), (7, -11)] + FAR_SHIFTS:
                other = moved(floor, move(word, p, q))
                spot = keeping(other).spot(p, q)
                self.assertEqual(self.check(floor, other), (word, spot[0], spot[1]))

    def test_back_again(self):
        floor = Floor(["0010", "0111", "2000"], 1)
        for word in WORDS:
            other = moved(floor, move(word, 5, -3))
            way = behind(carrier(floor, other), carrier(other, floor))
            self.assertEqual(way.word(), "shift")
            self.assertTrue(floor.steps.holds(way.to(0, 0)[0], way.to(0, 0)[1]))

    def test_the_first_of_several(self):
        # Four words lead it there; the first of them is told.
        floor = Floor(["0011"])
        self.assertEqual(carrier(floor, moved(floor, move("flipx", 3, 1))).told(), ("shift", 2, 0))
        self.assertEqual(carrier(floor, moved(floor, move("anti", 3, 1))).told(), ("left", 0, 0))
        self.assertEqual(carrier(floor, moved(floor, move("diag", 3, 1))).told(), ("left", 0, 1))

    def test_against_every_word_and_shift(self):
        chance = random.Random(16)
        floors = list(small_floors())[::5] + chosen_floors()[::2]
        for one in floors:
            other = moved(one, move(chance.choice(WORDS), chance.randint(-9, 9), chance.randint(-9, 9)))
            self.assertEqual(self.check(one, other), all_leading(one, other)[0])

    def test_any_two(self):
        floors = [floor for floor in small_floors() if floor.steps.many() in (4, 5)][::4]
        led = 0
        for one, other in itertools.product(floors, repeat=2):
            ways = all_leading(one, other)
            way = carrier(one, other)
            self.assertEqual(None if way is None else way.told(), ways[0] if ways else None)
            led += way is not None
        self.assertTrue(0 < led < len(floors) ** 2)

    def test_to_itself(self):
        for floor in itertools.chain(small_floors(), chosen_floors()):
            self.assertEqual(carrier(floor, floor).told(), ("shift", 0, 0))

    def test_where_no_move_does(self):
        floor = Floor(["0010", "0111", "2000"], 1)
        for word in WORDS:
            other = moved(floor, move(word, 2, 1))
            self.assertIsNone(carrier(floor, recoloured(other, {"2": "3"})))
            self.assertIsNone(carrier(recoloured(floor, {"0": "1", "1": "0"}), other))
            for x, y in other.steps.cells():
                sign = "1" if other.at(x, y) == "0" else "0"
                self.assertIsNone(carrier(floor, with_one_changed(other, x, y, sign)))
        # As many cells of each colour, but another area of the least piece.
        self.assertIsNone(carrier(Floor(["0101"]), Floor(["0011"])))
        self.assertIsNone(carrier(Floor(["0011"]), Floor(["0101"])))
        self.assertIsNone(carrier(Floor(["0"]), Floor(["1"])))
        self.assertIsNone(carrier(Floor(["001"]), Floor(["0001"])))
        # One area, yet steps that no word leads into each other.
        self.assertIsNone(carrier(Floor(["0001"]), Floor(["0001"], 1)))
        self.assertIsNone(carrier(Floor(["0001"], 2), Floor(["00", "01"])))

    def test_different_pieces_of_one_and_other(self):
        floor = Floor(["0010", "0111", "2000"], 1)
        for word in WORDS:
            other = moved(floor, move(word, 2, 1))
            told = carrier(floor, other).told()
            for times, turn, up in [(2, 0, 1), (1, 0, 2), (2, 1, 3)]:
                self.assertEqual(carrier(retold(floor, times, turn, up), other).told(), told)
                self.assertEqual(carrier(floor, retold(other, times, turn, up)).told(), told)
                self.assertEqual(carrier(retold(floor, 1, 0, 3), retold(other, times, turn, up)).told(), told)

    def test_the_greatest_pieces(self):
        chance = random.Random(17)
        rows = ["".join(chance.choice("01") for _ in range(64)) for _ in range(64)]
        for slip in (0, 32, 1):
            floor = Floor(rows, slip)
            for word in WORDS:
                other = moved(floor, move(word, 40, FAR))
                way = carrier(floor, other)
                self.assertEqual(way.word(), word)
                self.assertEqual(way.to(0, 0), other.steps.spot(40, FAR))
                x, y = chance.randrange(other.steps.wide), chance.randrange(other.steps.high)
                self.assertIsNone(carrier(floor, with_one_changed(other, x, y, "2")))


class UnlikeTest(unittest.TestCase):
    def check(self, one, other, way):
        before = (one.told(), other.told(), way.told())
        cell = unlike(one, other, way)
        self.assertEqual(cell, first_wrong(one, other, way, shared_piece(one, other, way).cells()), before)
        self.assertEqual((one.told(), other.told(), way.told()), before)
        return cell

    def test_told_ones(self):
        one = Floor(["000", "010"])
        self.assertIsNone(unlike(one, one, move("shift", 0, 0)))
        self.assertIsNone(unlike(one, one, move("half", 2, 0)))
        self.assertEqual(unlike(one, one, move("shift", 1, 0)), (0, 1))
        self.assertEqual(unlike(one, one, move("shift", 0, 1)), (1, 0))
        self.assertEqual(unlike(one, one, move("half", 2, 1)), (1, 0))
        self.assertEqual(unlike(one, Floor(["0"]), move("left")), (1, 1))
        self.assertEqual(unlike(Floor(["0"]), one, move("left")), (1, 2))
        self.assertEqual(unlike(Floor(["0"]), one, move("right")), (1, 1))
        self.assertEqual(unlike(Floor(["0"]), one, move("right", 0, 1)), (0, 1))
        self.assertEqual(unlike(Floor(["0"]), one, move("shift", -7, 0)), (2, 1))

    def test_beyond_the_one_s_own_piece(self):
        one = Floor(["0"])
        self.assertEqual(unlike(one, Floor(["00000001"]), move("shift")), (7, 0))
        self.assertEqual(unlike(one, Floor(["00000001"]), move("left")), (0, 1))
        self.assertEqual(unlike(one, Floor(["00000001"]), move("right")), (0, 7))
        self.assertEqual(unlike(Floor(["00", "01"]), Floor(["00", "00", "00", "01"]), move("shift")), (1, 1))
        self.assertEqual(unlike(Floor(["01"]), Floor(["010"]), move("shift")), (3, 0))
        self.assertEqual(unlike(Floor(["01"]), Floor(["010101", "010101", "010100"], 3), move("shift")), (5, 2))
        self.assertEqual(unlike(Floor(["0", "1"]), Floor(["0", "1", "0"]), move("shift")), (0, 3))

    def test_each_word_with_shifts_near_and_far(self):
        chance = random.Random(18)
        for _ in range(400):
            one = any_floor(chance, 4, 4, "0001")
            other = any_floor(chance, 4, 4, "0001")
            for word in WORDS:
                p, q = chance.choice(FAR_SHIFTS + [(chance.randint(-9, 9), chance.randint(-9, 9))] * 5)
                self.check(one, other, move(word, p, q))

    def test_late_ones(self):
        # All is alike but for one cell in a great piece.
        chance = random.Random(19)
        beyond = 0
        for _ in range(60):
            one = any_floor(chance, 3, 3, "01")
            for word in WORDS:
                way = move(word, chance.randint(-9, 9), chance.randint(-9, 9))
                other = retold(moved(one, way), chance.randint(1, 3), chance.randint(0, 2), chance.randint(1, 3))
                self.assertIsNone(self.check(one, other, way))
                x, y = chance.randrange(other.steps.wide), chance.randrange(other.steps.high)
                cell = self.check(one, with_one_changed(other, x, y, "2"), way)
                self.assertIsNotNone(cell)
                beyond += cell[0] >= one.steps.wide or cell[1] >= one.steps.high
        self.assertGreater(beyond, 100)

    def test_the_rows_are_alike_for_long(self):
        # Two rows that are alike for as long as rows of these lengths can be, without being so for ever.
        one = Floor(["01001010"])
        other = Floor(["01001"])
        self.assertEqual(unlike(one, other, move("shift")), (11, 0))
        self.assertEqual(unlike(other, one, move("shift")), (11, 0))
        self.assertEqual(unlike(moved(one, move("diag")), moved(other, move("diag")), move("shift")), (0, 11))
        chance = random.Random(20)
        for _ in range(200):
            one = any_floor(chance, 9, 1, "00001")
            other = any_floor(chance, 9, 1, "00001")
            self.check(one, other, move("shift"))

    def test_none_just_where_the_move_leads(self):
        floor = Floor(["0010", "0111", "2000"], 1)
        for word in WORDS:
            for p, q in [(0, 0), (-4, 9)] + FAR_SHIFTS:
                way = move(word, p, q)
                other = moved(floor, way)
                self.assertIsNone(unlike(floor, other, way))
                self.assertIsNone(unlike(other, floor, back(way)))
                self.assertIsNotNone(unlike(floor, other, behind(way, move("shift", 1, 0))))
                self.assertIsNotNone(unlike(floor, recoloured(other, {"2": "3"}), way))

    def test_great_shared_pieces(self):
        one = Floor(["0" * 64] * 64, 1)
        self.assertEqual(common(one.steps, Steps(64, 0, 63)).many(), 64 * 64 * 64 * 63)
        self.assertIsNone(unlike(one, Floor(["0" * 64] * 63), move("shift", FAR, FAR)))
        other = Floor(["0" * 64] * 62 + ["0" * 63 + "1"])
        self.assertEqual(unlike(one, other, move("shift")), (63, 62))
        self.assertEqual(unlike(one, other, move("half")), (1, 1))
        # Each of the two is alike with "0" up to row 62, and so they part only at the first's second "1".
        tall = Floor((["0"] * 62 + ["1"]), 0)
        self.assertEqual(unlike(Floor(["0"] * 62 + ["1"] + ["0"]), tall, move("shift")), (0, 125))
        self.assertEqual(unlike(Floor(["0" * 62 + "10"]), Floor(["0" * 62 + "1"]), move("shift")), (125, 0))
        self.assertIsNone(unlike(Floor(["01" * 32] * 61, 2), Floor(["0" * 59, "1" * 59]), move("left")))

    def test_a_pair_or_none(self):
        one = Floor(["0001"])
        self.assertIs(type(unlike(one, one, move("half"))), tuple)
        self.assertIs(unlike(one, one, move("flipy")), None)


class SameTest(unittest.TestCase):
    def test_told_ones(self):
        self.assertIs(same(Floor(["01"]), Floor(["01"])), True)
        self.assertIs(same(Floor(["01"]), Floor(["10"])), False)
        self.assertIs(same(Floor(["01", "10"]), Floor(["01"], 1)), True)
        self.assertIs(same(Floor(["01", "10"]), Floor(["01"])), False)
        self.assertIs(same(Floor(["0"]), Floor(["000", "000"], 2)), True)
        self.assertIs(same(Floor(["0"]), Floor(["1"])), False)
        self.assertIs(same(Floor(["012"], 1), Floor(["012"], 2)), False)
        self.assertIs(same(Floor(["012"], 1), Floor(["012"], -2)), True)
        self.assertIs(same(Floor(["012"], 1), Floor(["012"], FAR + 2)), True)
        self.assertIs(same(Floor(["001", "100"], 2), Floor(["001"], 1)), True)

    def test_greater_pieces(self):
        for floor in chosen_floors():
            for times, turn, up in [(2, 0, 1), (1, 0, 2), (3, 1, 2), (2, 1, 5)]:
                other = retold(floor, times, turn, up)
                self.assertIs(same(floor, other), True)
                self.assertIs(same(other, retold(floor, 2, 1, 3)), True)

    def test_cut_elsewhere_and_moved_back(self):
        for floor in chosen_floors():
            for x, y in [(1, 0), (0, 1), (-2, 5), (FAR, 3 - FAR)]:
                cut = painted(floor.steps, lambda a, b: floor.at(a + x, b + y))
                self.assertIs(same(floor, moved(cut, move("shift", x, y))), True)

    def test_one_cell_changed(self):
        for floor in chosen_floors():
            for told in [floor, retold(floor, 2, 1, 2)]:
                for x, y in told.steps.cells()[::3]:
                    sign = "1" if told.at(x, y) == "0" else "0"
                    self.assertIs(same(floor, with_one_changed(told, x, y, sign)), False)

    def test_any_two(self):
        floors = [floor for floor in small_floors() if floor.steps.many() <= 4]
        for one, other in itertools.product(floors, repeat=2):
            self.assertIs(same(one, other), leads(one, other, move("shift")))

    def test_what_is_handed_in_stays(self):
        one = Floor(["0101", "0101"], 1)
        other = Floor(["01"], 1)
        told = (one.told(), other.told())
        same(one, other)
        self.assertEqual((one.told(), other.told()), told)


if __name__ == "__main__":
    unittest.main()
