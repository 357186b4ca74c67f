import itertools
import math
import unittest

from farfloor.errors import Thin
from farfloor.steps import Steps, common, made, plainest, together

FAR = 2 * 10 ** 18
SMALL = [(wide, slip, high) for wide in range(1, 5) for high in range(1, 4) for slip in range(wide)]
FAR_SETS = [(FAR, FAR - 1, FAR), (FAR, 0, 1), (1, 0, FAR), (10 ** 18 + 9, 10 ** 17, 10 ** 18 - 11)]


def within(told, x, y):
    # The step by its weights: y tells how often (slip, high) is taken, the rest must be left to (wide, 0).
    wide, slip, high = told
    return y % high == 0 and (x - y // high * slip) % wide == 0


def area(rows):
    # The greatest common part of all two-by-two areas is how many cells the piece has.
    return math.gcd(*[a * d - b * c for (a, b), (c, d) in itertools.combinations(rows, 2)], 0)


class PlainestTest(unittest.TestCase):
    def check(self, rows):
        wide, slip, high = plainest(rows).told()
        with self.subTest(rows=rows):
            self.assertGreater(wide, 0)
            self.assertGreater(high, 0)
            self.assertGreaterEqual(slip, 0)
            self.assertLess(slip, wide)
            # All steps are within, and the piece is no smaller than theirs: so it is the very set.
            for x, y in rows:
                self.assertTrue(within((wide, slip, high), x, y))
            self.assertEqual(wide * high, area(rows))

    def test_told_sets(self):
        self.assertEqual(plainest([(5, 0), (2, 3)]).told(), (5, 2, 3))
        self.assertEqual(plainest([(2, 3), (5, 0)]).told(), (5, 2, 3))
        self.assertEqual(plainest([(1, 0), (0, 1)]).told(), (1, 0, 1))
        self.assertEqual(plainest([(2, 1), (1, 2)]).told(), (3, 2, 1))
        self.assertEqual(plainest([(4, 0), (0, 6), (2, 3)]).told(), (4, 2, 3))
        self.assertEqual(plainest([(0, 4), (6, 0), (0, 6), (4, 0)]).told(), (2, 0, 2))

    def test_all_small_pairs_of_steps(self):
        span = range(-4, 5)
        for rows in itertools.product(itertools.product(span, span), repeat=2):
            rows = list(rows)
            if area(rows):
                self.check(rows)
            else:
                with self.assertRaises(Thin):
                    plainest(rows)

    def test_three_steps_and_more(self):
        near = [(0, 0), (6, 0), (-4, 2), (3, 9), (0, -6), (-5, -10)]
        for rows in itertools.product(near, repeat=3):
            if area(rows):
                self.check(list(rows))
        self.check([(12 * k - 30, 18 * k * k - 6) for k in range(40)])

    def test_far_steps(self):
        self.check([(FAR, 0), (FAR - 1, FAR)])
        self.check([(-FAR, -FAR), (FAR, 1 - FAR)])
        self.check([(FAR, FAR - 1), (FAR - 2, FAR - 3), (-FAR, 7)])
        self.check([(10 ** 18 + k * k, (-1) ** k * (FAR - 3 * k)) for k in range(60)])
        self.assertEqual(plainest([(FAR, 0), (-1, FAR)]).told(), (FAR, FAR - 1, FAR))

    def test_many_ways_one_form(self):
        rows = [(6, 0), (2, 3), (-4, 6)]
        told = plainest(rows).told()
        for order in itertools.permutations(rows):
            order = list(order)
            self.assertEqual(plainest(order).told(), told)
            self.assertEqual(plainest(order + order).told(), told)
            self.assertEqual(plainest([(-x, -y) for x, y in order]).told(), told)
            self.assertEqual(plainest(order + [(0, 0)]).told(), told)

    def test_other_bases_of_one_set(self):
        for told in SMALL + FAR_SETS:
            (a, b), (c, d) = made(Steps(*told))
            for m, n in ((1, 0), (-3, 2), (5, -7), (1000, 1)):
                one = (a + m * c, b + m * d)
                other = (c + n * one[0], d + n * one[1])
                with self.subTest(told=told, m=m, n=n):
                    self.assertEqual(plainest([one, other]).told(), told)
                    self.assertEqual(plainest([other, (-one[0], -one[1]), one]).told(), told)

    def test_sets_on_a_line_are_thin(self):
        lines = [
            [], [(0, 0)], [(0, 0), (0, 0)], [(3, 0)], [(0, 3)], [(2, 5)], [(-2, -5)],
            [(3, 0), (5, 0)], [(0, 3), (0, -5), (0, 0)], [(2, 4), (3, 6)], [(2, -4), (-3, 6), (0, 0)],
            [(FAR, FAR), (-FAR, -FAR)], [(FAR, 0), (1 - FAR, 0)], [(FAR // 2, FAR), (1, 2), (-7, -14)],
        ]
        for rows in lines:
            with self.subTest(rows=rows):
                with self.assertRaises(Thin) as taken:
                    plainest(rows)
                self.assertIs(type(taken.exception), Thin)

    def test_nearly_on_a_line_is_not_thin(self):
        self.check([(FAR, FAR), (FAR - 1, FAR)])
        self.check([(1, 2), (2, 4), (3, 7)])

    def test_what_is_handed_in_stays_and_is_not_kept(self):
        rows = [(6, 4), (-2, 3), (6, 4)]
        steps = plainest(rows)
        self.assertEqual(rows, [(6, 4), (-2, 3), (6, 4)])
        told = steps.told()
        rows.append((1, 0))
        rows[0] = (0, 1)
        self.assertEqual(steps.told(), told)


class StepsTest(unittest.TestCase):
    def test_told(self):
        for told in SMALL + FAR_SETS:
            found = Steps(*told).told()
            self.assertIs(type(found), tuple)
            self.assertEqual(found, told)

    def test_a_slip_beyond_is_brought_within(self):
        self.assertEqual(Steps(5, 5, 3).told(), (5, 0, 3))
        self.assertEqual(Steps(5, 7, 3).told(), (5, 2, 3))
        self.assertEqual(Steps(5, -1, 3).told(), (5, 4, 3))
        self.assertEqual(Steps(7, -FAR, 1).told(), (7, -FAR % 7, 1))
        self.assertEqual(Steps(7, FAR, 1).spot(FAR, 1), (0, 0))

    def test_steps_back_are_brought_to_the_plainest_form(self):
        for wide, slip, high in itertools.product((-5, 5), (-7, -2, 0, 3), (-3, 3)):
            self.assertEqual(Steps(wide, slip, high).told(), plainest([(wide, 0), (slip, high)]).told())

    def test_steps_on_a_line_are_thin(self):
        for told in ((0, 0, 3), (0, 2, 3), (4, 1, 0), (0, 0, 0)):
            with self.assertRaises(Thin) as taken:
                Steps(*told)
            self.assertIs(type(taken.exception), Thin)

    def test_many(self):
        self.assertEqual(Steps(1, 0, 1).many(), 1)
        self.assertEqual(Steps(5, 2, 3).many(), 15)
        self.assertEqual(Steps(FAR, 1, FAR).many(), FAR * FAR)

    def test_made(self):
        for told in SMALL + FAR_SETS:
            rows = made(Steps(*told))
            self.assertIs(type(rows), list)
            self.assertEqual([(type(row), len(row)) for row in rows], [(tuple, 2), (tuple, 2)])
            self.assertEqual(plainest(rows).told(), told)

    def test_cells_in_their_order(self):
        self.assertEqual(Steps(3, 1, 2).cells(), [(0, 0), (1, 0), (2, 0), (0, 1), (1, 1), (2, 1)])
        self.assertEqual(Steps(1, 0, 3).cells(), [(0, 0), (0, 1), (0, 2)])
        self.assertEqual(Steps(3, 2, 1).cells(), [(0, 0), (1, 0), (2, 0)])
        self.assertEqual(Steps(1, 0, 1).cells(), [(0, 0)])
        for told in SMALL + [(64, 9, 64)]:
            steps = Steps(*told)
            cells = steps.cells()
            self.assertEqual(len(cells), steps.many())
            self.assertEqual(cells, sorted(cells, key=lambda cell: (cell[1], cell[0])))
            self.assertTrue(all(type(cell) is tuple for cell in cells))

    def test_lists_given_back_are_new(self):
        steps = Steps(3, 1, 2)
        cells, rows = steps.cells(), made(steps)
        cells.clear()
        rows.clear()
        self.assertEqual(len(steps.cells()), 6)
        self.assertEqual(len(made(steps)), 2)
        self.assertEqual(steps.told(), (3, 1, 2))

    def test_spot_of_a_cell_of_the_piece_is_itself(self):
        for told in SMALL:
            steps = Steps(*told)
            for x, y in steps.cells():
                self.assertEqual(steps.spot(x, y), (x, y))
        for wide, slip, high in FAR_SETS:
            steps = Steps(wide, slip, high)
            for cell in ((0, 0), (wide - 1, 0), (0, high - 1), (wide - 1, high - 1)):
                self.assertEqual(steps.spot(*cell), cell)

    def test_told_spots(self):
        steps = Steps(5, 2, 3)
        self.assertEqual(steps.spot(5, 0), (0, 0))
        self.assertEqual(steps.spot(0, 3), (3, 0))
        self.assertEqual(steps.spot(2, 3), (0, 0))
        self.assertEqual(steps.spot(0, -1), (2, 2))
        self.assertEqual(steps.spot(-1, 0), (4, 0))
        self.assertEqual(steps.spot(-1, -4), (3, 2))

    def test_a_spot_lies_in_the_piece_and_is_a_step_away(self):
        near = list(range(-7, 8)) + [FAR, FAR - 1, -FAR, 1 - FAR]
        for told in SMALL + FAR_SETS:
            steps = Steps(*told)
            for x, y in itertools.product(near, near):
                spot = steps.spot(x, y)
                self.assertIs(type(spot), tuple)
                self.assertTrue(0 <= spot[0] < told[0] and 0 <= spot[1] < told[2])
                self.assertTrue(within(told, x - spot[0], y - spot[1]))

    def test_a_moved_cell_has_the_same_spot(self):
        for told in SMALL + FAR_SETS:
            steps = Steps(*told)
            (a, b), (c, d) = made(steps)
            for x, y in ((0, 0), (3, -2), (-FAR, FAR), (FAR - 5, 1 - FAR)):
                for m, n in itertools.product((-3, -1, 0, 1, 2, FAR), repeat=2):
                    moved = (x + m * a + n * c, y + m * b + n * d)
                    self.assertEqual(steps.spot(*moved), steps.spot(x, y))

    def test_holds_just_the_steps(self):
        for told in SMALL:
            wide, slip, high = told
            steps = Steps(*told)
            sums = {(m * wide + n * slip, n * high) for m in range(-20, 21) for n in range(-8, 9)}
            for x, y in itertools.product(range(-8, 9), range(-8, 9)):
                with self.subTest(told=told, x=x, y=y):
                    self.assertIs(steps.holds(x, y), (x, y) in sums)

    def test_holds_far_out(self):
        for wide, slip, high in FAR_SETS:
            steps = Steps(wide, slip, high)
            for m, n in itertools.product((-2, 0, 1, 9), repeat=2):
                x, y = m * wide + n * slip, n * high
                self.assertIs(steps.holds(x, y), True)
                self.assertIs(steps.holds(x + 1, y), wide == 1)
                self.assertIs(steps.holds(x + slip, y + 1), high == 1)


class TogetherAndCommonTest(unittest.TestCase):
    def far_pairs(self):
        sets = FAR_SETS + [(12, 5, 8), (FAR - 1, 77, 10 ** 9), (1, 0, 1), (6 * 10 ** 17, 10 ** 17, 4 * 10 ** 17)]
        return itertools.product(sets, sets)

    def plain(self, told):
        wide, slip, high = told
        return wide > 0 and high > 0 and 0 <= slip < wide

    def test_told_sets(self):
        one, other = Steps(4, 0, 6), Steps(6, 0, 4)
        self.assertEqual(together(one, other).told(), (2, 0, 2))
        self.assertEqual(common(one, other).told(), (12, 0, 12))
        one, other = Steps(2, 1, 1), Steps(2, 0, 1)
        self.assertEqual(together(one, other).told(), (1, 0, 1))
        self.assertEqual(common(one, other).told(), (2, 0, 2))
        one, other = Steps(3, 1, 1), Steps(3, 2, 1)
        self.assertEqual(together(one, other).told(), (1, 0, 1))
        self.assertEqual(common(one, other).told(), (3, 0, 3))
        one, other = Steps(5, 2, 3), Steps(4, 1, 2)
        self.assertEqual(together(one, other).told(), (1, 0, 1))
        self.assertEqual(common(one, other).told(), (20, 19, 6))

    def test_small_sets_step_by_step(self):
        span = list(itertools.product(range(-6, 7), range(-1, 25)))
        for one, other in itertools.product(SMALL, SMALL):
            both = common(Steps(*one), Steps(*other))
            self.assertTrue(self.plain(both.told()))
            for x, y in span:
                wanted = within(one, x, y) and within(other, x, y)
                if both.holds(x, y) is not wanted:
                    self.fail((one, other, (x, y)))

    def test_together_is_all_sums(self):
        for one, other in itertools.product(SMALL, SMALL):
            rows = made(Steps(*one)) + made(Steps(*other))
            found = together(Steps(*one), Steps(*other))
            self.assertTrue(self.plain(found.told()))
            self.assertTrue(all(found.holds(x, y) for x, y in rows))
            self.assertEqual(found.many(), area(rows))

    def test_far_sets(self):
        for one, other in self.far_pairs():
            first, second = Steps(*one), Steps(*other)
            all_sums, both = together(first, second), common(first, second)
            with self.subTest(one=one, other=other):
                self.assertTrue(self.plain(all_sums.told()))
                self.assertTrue(self.plain(both.told()))
                self.assertTrue(all(all_sums.holds(x, y) for x, y in made(first) + made(second)))
                self.assertEqual(all_sums.many(), area(made(first) + made(second)))
                self.assertTrue(all(first.holds(x, y) and second.holds(x, y) for x, y in made(both)))
                # Pieces go over one another: no greater set than this is in both.
                self.assertEqual(both.many() * all_sums.many(), first.many() * second.many())

    def test_either_way_round(self):
        for one, other in self.far_pairs():
            first, second = Steps(*one), Steps(*other)
            self.assertEqual(together(first, second).told(), together(second, first).told())
            self.assertEqual(common(first, second).told(), common(second, first).told())

    def test_a_set_with_itself(self):
        for told in SMALL + FAR_SETS:
            self.assertEqual(together(Steps(*told), Steps(*told)).told(), told)
            self.assertEqual(common(Steps(*told), Steps(*told)).told(), told)

    def test_a_set_within_another(self):
        outer, inner = Steps(3, 1, 2), plainest([(9, 0), (1, 2)])
        self.assertEqual(together(outer, inner).told(), outer.told())
        self.assertEqual(common(outer, inner).told(), inner.told())

    def test_what_is_handed_in_stays(self):
        one, other = Steps(4, 3, 6), Steps(6, 5, 4)
        together(one, other)
        common(one, other)
        self.assertEqual((one.told(), other.told()), ((4, 3, 6), (6, 5, 4)))
        self.assertIsNot(common(one, one), one)
        self.assertIsNot(together(one, one), one)


if __name__ == "__main__":
    unittest.main()
