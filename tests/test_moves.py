import itertools
import unittest

from farfloor.errors import FloorError, NoWord
from farfloor.moves import WORDS, Move, back, behind, move

FAR = 2 * 10 ** 18
PARTS = {
    "shift": lambda x, y: (x, y),
    "half": lambda x, y: (-x, -y),
    "left": lambda x, y: (-y, x),
    "right": lambda x, y: (y, -x),
    "flipx": lambda x, y: (-x, y),
    "flipy": lambda x, y: (x, -y),
    "diag": lambda x, y: (y, x),
    "anti": lambda x, y: (-y, -x),
}
CELLS = [(0, 0), (1, 0), (0, 1), (3, 5), (-4, 7), (6, -2), (-1, -8), (FAR, 1 - FAR), (-FAR, FAR - 7)]
SHIFTS = [(0, 0), (1, 0), (0, 1), (-3, 8), (11, -4), (FAR, -FAR), (7 - FAR, FAR)]


def led(word, p, q, cell):
    x, y = PARTS[word](*cell)
    return (x + p, y + q)


def ways():
    return [(word, p, q) for word in WORDS for p, q in SHIFTS]


class MoveTest(unittest.TestCase):
    def test_the_eight_words_in_their_order(self):
        self.assertEqual(list(WORDS), ["shift", "half", "left", "right", "flipx", "flipy", "diag", "anti"])

    def test_where_each_word_leads_one_cell(self):
        ends = [move(word).to(2, 1) for word in WORDS]
        self.assertEqual(ends, [(2, 1), (-2, -1), (-1, 2), (1, -2), (-2, 1), (2, -1), (1, 2), (-1, -2)])
        ends = [move(word, 10, 20).to(2, 1) for word in WORDS]
        self.assertEqual(ends, [(12, 21), (8, 19), (9, 22), (11, 18), (8, 21), (12, 19), (11, 22), (9, 18)])

    def test_to_and_part_near_and_far_out(self):
        for word, p, q in ways():
            way = move(word, p, q)
            for cell in CELLS:
                self.assertEqual(way.part(*cell), PARTS[word](*cell), (word, p, q, cell))
                self.assertEqual(way.to(*cell), led(word, p, q, cell), (word, p, q, cell))

    def test_word_and_told(self):
        for word, p, q in ways():
            way = move(word, p, q)
            self.assertIsInstance(way, Move)
            self.assertEqual(way.word(), word)
            self.assertEqual(way.told(), (word, p, q))

    def test_the_shift_left_out(self):
        for word in WORDS:
            self.assertEqual(move(word).told(), (word, 0, 0))
            self.assertEqual(move(word, 5).told(), (word, 5, 0))
            self.assertEqual(move(word, q=5).told(), (word, 0, 5))
            self.assertEqual(move(word=word, p=-1, q=2).told(), (word, -1, 2))

    def test_pairs_are_tuples(self):
        way = move("anti", 1, 2)
        for value in (way.to(3, 4), way.part(3, 4), way.told()):
            self.assertIs(type(value), tuple)


class BehindTest(unittest.TestCase):
    def test_the_one_and_then_the_other(self):
        for one, other in itertools.product(ways(), repeat=2):
            way = behind(move(*one), move(*other))
            for cell in CELLS:
                self.assertEqual(way.to(*cell), led(*other, led(*one, cell)), (one, other, cell))

    def test_told_ones(self):
        self.assertEqual(behind(move("left"), move("left")).told(), ("half", 0, 0))
        self.assertEqual(behind(move("left", 1, 0), move("flipx", 0, 2)).told(), ("diag", -1, 2))
        self.assertEqual(behind(move("flipx", 0, 2), move("left", 1, 0)).told(), ("anti", -1, 0))
        self.assertEqual(behind(move("shift", FAR, FAR), move("shift", FAR, -1)).told(), ("shift", 2 * FAR, FAR - 1))

    def test_the_handed_in_moves_stay(self):
        one = move("left", 3, 4)
        other = move("diag", -5, 6)
        self.assertIsInstance(behind(one, other), Move)
        self.assertEqual((one.told(), other.told()), (("left", 3, 4), ("diag", -5, 6)))


class BackTest(unittest.TestCase):
    def test_undone_both_ways(self):
        for told in ways():
            way = move(*told)
            undoing = back(way)
            self.assertIsInstance(undoing, Move)
            self.assertEqual(way.told(), told)
            self.assertEqual(behind(way, undoing).told(), ("shift", 0, 0))
            self.assertEqual(behind(undoing, way).told(), ("shift", 0, 0))
            self.assertEqual(back(undoing).told(), told)
            for cell in CELLS:
                self.assertEqual(undoing.to(*led(*told, cell)), cell)
                self.assertEqual(led(*told, undoing.to(*cell)), cell)

    def test_words_that_undo(self):
        words = [back(move(word)).told() for word in WORDS]
        named = ["shift", "half", "right", "left", "flipx", "flipy", "diag", "anti"]
        self.assertEqual(words, [(word, 0, 0) for word in named])

    def test_told_ones(self):
        self.assertEqual(back(move("shift", 3, -4)).told(), ("shift", -3, 4))
        self.assertEqual(back(move("half", 3, -4)).told(), ("half", 3, -4))
        self.assertEqual(back(move("left", 3, -4)).told(), ("right", 4, 3))
        self.assertEqual(back(move("anti", 3, -4)).told(), ("anti", -4, 3))


class NoWordTest(unittest.TestCase):
    def test_another_word(self):
        wrong = ["", " ", "Shift", "SHIFT", "shifts", "shif", "flip", "flipxy", "flipX", "lef", "left ", " left",
                 "hal", "half\n", "diagonal", "antidiag", "turn", "x", "0", "shift,half"]
        for word in wrong:
            for shift in ((), (0, 0), (3, -FAR)):
                with self.subTest(word=word, shift=shift):
                    with self.assertRaises(FloorError) as caught:
                        move(word, *shift)
                    self.assertIs(type(caught.exception), NoWord)


if __name__ == "__main__":
    unittest.main()
