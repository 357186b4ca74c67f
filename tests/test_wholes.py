import math
import unittest

from farfloor.wholes import meeting, shared, turned, weights

FAR = 2 * 10 ** 18
NUMBERS = [0, 1, -1, 2, -2, 12, -18, 35, 97, 10 ** 9 + 7, -(10 ** 18), FAR - 1, FAR, 1 - FAR, -FAR]


class SharedTest(unittest.TestCase):
    def test_small_numbers_by_what_divides_both(self):
        for one in range(-12, 13):
            for other in range(-12, 13):
                part = shared(one, other)
                both = [k for k in range(1, 13) if one % k == 0 and other % k == 0]
                with self.subTest(one=one, other=other):
                    if one == 0 and other == 0:
                        self.assertEqual(part, 0)
                    else:
                        self.assertEqual(part, max(both))
                        self.assertTrue(all(part % k == 0 for k in both))

    def test_noughts(self):
        self.assertEqual(shared(0, 0), 0)
        self.assertEqual(shared(0, 7), 7)
        self.assertEqual(shared(7, 0), 7)
        self.assertEqual(shared(0, -7), 7)
        self.assertEqual(shared(-7, 0), 7)

    def test_far_numbers(self):
        for one in NUMBERS:
            for other in NUMBERS:
                self.assertEqual(shared(one, other), math.gcd(one, other))
        self.assertEqual(shared(FAR, -FAR), FAR)
        self.assertEqual(shared(FAR, FAR - 1), 1)

    def test_a_part_laid_into_both(self):
        for part in (1, 6, 10 ** 9, 10 ** 9 + 7):
            for one, other in ((8, 15), (-8, 15), (8, -15), (-8, -15), (10 ** 9, 10 ** 9 - 1)):
                self.assertEqual(shared(part * one, part * other), part)

    def test_numbers_that_take_the_most_turns(self):
        one, other = 1, 1
        while one + other <= FAR:
            one, other = one + other, one
        self.assertEqual(shared(one, other), 1)
        self.assertEqual(shared(other, -one), 1)


class WeightsTest(unittest.TestCase):
    def check(self, one, other):
        found = weights(one, other)
        with self.subTest(one=one, other=other):
            self.assertIs(type(found), tuple)
            self.assertEqual(len(found), 3)
            self.assertEqual(found[0], math.gcd(one, other))
            self.assertEqual(found[1] * one + found[2] * other, found[0])

    def test_small_numbers(self):
        for one in range(-12, 13):
            for other in range(-12, 13):
                self.check(one, other)

    def test_far_numbers(self):
        for one in NUMBERS:
            for other in NUMBERS:
                self.check(one, other)

    def test_a_part_laid_into_both(self):
        for part in (6, 10 ** 9 + 7):
            for one, other in ((8, 15), (-8, 15), (8, -15), (-8, -15)):
                self.check(part * one, part * other)
                self.assertEqual(weights(part * one, part * other)[0], part)


class MeetingTest(unittest.TestCase):
    def test_small_numbers_by_trying_each(self):
        for one in range(1, 9):
            for other in range(1, 9):
                for first in range(-9, 18, 2):
                    for second in range(-9, 18):
                        wanted = [k for k in range(one * other)
                                  if (k - first) % one == 0 and (k - second) % other == 0]
                        with self.subTest(one=one, first=first, other=other, second=second):
                            self.assertEqual(meeting(one, first, other, second), wanted[0] if wanted else None)

    def test_rests_that_do_not_meet(self):
        self.assertIsNone(meeting(4, 1, 6, 2))
        self.assertIsNone(meeting(2, 0, 2, 1))
        self.assertIsNone(meeting(FAR, 0, FAR, 1))

    def test_nought_is_the_least(self):
        found = meeting(5, 0, 7, 0)
        self.assertEqual(found, 0)
        self.assertIsNot(found, None)
        self.assertEqual(meeting(5, 35, 7, -70), 0)
        self.assertEqual(meeting(1, FAR, 1, -FAR), 0)

    def test_rests_greater_than_their_numbers_or_below_nought(self):
        self.assertEqual(meeting(4, 1, 6, 3), 9)
        self.assertEqual(meeting(4, 41, 6, 63), 9)
        self.assertEqual(meeting(4, -3, 6, -3), 9)

    def test_far_numbers(self):
        one, other = FAR, FAR - 1
        for place in (0, 1, FAR, one * other - 1):
            self.assertEqual(meeting(one, place % one, other, place % other), place)
            self.assertEqual(meeting(one, place % one - one, other, place % other + other), place)

    def test_far_numbers_with_a_part_in_both(self):
        part = 10 ** 9 + 7
        one, other = part * 999999937, part * 999999929
        both = one // part * other
        for place in (0, 5, part, both - 1, both // 2):
            self.assertEqual(meeting(one, place, other, place), place)
            self.assertEqual(meeting(one, place - 3 * both, other, place + 2 * both), place)
            self.assertIsNone(meeting(one, place, other, place + 1))


class TurnedTest(unittest.TestCase):
    def wanted(self, bits, by, width):
        places = [0] * width
        for k in range(width):
            places[(k + by) % width] = bits >> k & 1
        return sum(bit << k for k, bit in enumerate(places))

    def test_small_widths_by_place(self):
        for width in range(1, 7):
            for bits in range(1 << width):
                for by in range(-2 * width - 1, 2 * width + 2):
                    with self.subTest(bits=bits, by=by, width=width):
                        self.assertEqual(turned(bits, by, width), self.wanted(bits, by, width))

    def test_one_way_and_not_the_other(self):
        self.assertEqual(turned(0b00011, 1, 5), 0b00110)
        self.assertEqual(turned(0b00011, -1, 5), 0b10001)

    def test_width_one(self):
        for by in (0, 1, -1, 7, FAR, -FAR):
            self.assertEqual(turned(0, by, 1), 0)
            self.assertEqual(turned(1, by, 1), 1)

    def test_by_nought_and_by_the_width(self):
        for by in (0, 6, -6, 12, 6 * 10 ** 17):
            self.assertEqual(turned(0b101100, by, 6), 0b101100)

    def test_far_out_both_ways(self):
        bits = 0b1011001110001
        for by in (FAR, FAR - 1, -FAR, 1 - FAR, 10 ** 18 + 5):
            self.assertEqual(turned(bits, by, 13), self.wanted(bits, by, 13))

    def test_wide_rows(self):
        width = 4096
        bits = sum(1 << (k * k % width) for k in range(0, 300, 7) if k % 2)
        for by in (1, 63, 4095, -1, FAR + 1):
            self.assertEqual(turned(bits, by, width), self.wanted(bits, by, width))

    def test_turned_back_it_is_the_same(self):
        for by in range(-20, 21):
            self.assertEqual(turned(turned(0b1100101, by, 7), -by, 7), 0b1100101)


if __name__ == "__main__":
    unittest.main()
