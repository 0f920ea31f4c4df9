"""The calls nearest, smooth, cost, and promise 3."""

import itertools
import unittest

from printlights.choosing import nearest_light
from tests.helper import COST, CURVE, FAR, NEAREST, SMOOTH, STRAIGHT, ask, last, numbers_from, table_of
from tests.test_turning import SHAPES

LINE = [CURVE, 1, STRAIGHT]
TWELVE = [number for k in range(12) for number in (20 * k, 255 - 20 * k)]


def far_off(table, v, target, light):
    return abs(target - table[max(0, min(255, v + 2 * (light - 25)))])


def row_far_off(table, pairs, row):
    return sum(far_off(table, pairs[2 * k], pairs[2 * k + 1], light) for k, light in enumerate(row))


def is_smooth(row, apart):
    return all(abs(one - other) <= apart for one, other in zip(row, row[1:]))


def by_rows(table, apart, pairs):
    """The best smooth row from the front: for each last light the best row up to it, the first of several."""
    best = {(): 0}
    for k in range(0, len(pairs), 2):
        longer = {}
        for light in range(51):
            off = far_off(table, pairs[k], pairs[k + 1], light)
            before = [(total, row) for row, total in best.items() if not row or abs(row[-1] - light) <= apart]
            total, row = min(before)
            longer[row + (light,)] = total + off
        best = longer
    total, row = min((total, row) for row, total in best.items())
    return [total] + list(row)


def some_pairs(seed, many):
    below = numbers_from(seed)
    return [below(256) for _ in range(2 * many)]


class Nearest(unittest.TestCase):
    def test_worked_out(self):
        for v, target, answer in (
            (100, 100, [25, 0]), (100, 102, [26, 0]), (100, 98, [24, 0]), (100, 150, [50, 0]), (100, 50, [0, 0]),
            (100, 151, [50, 1]), (100, 49, [0, 1]), (100, 255, [50, 105]), (100, 0, [0, 50]), (0, 255, [50, 205]),
            (255, 0, [0, 205]),
        ):
            self.assertEqual(last(LINE, [NEAREST, 1, v, target]), answer, (v, target))

    def test_of_several_the_one_nearest_to_25(self):
        # 253 and above are brought to 255 by all lights from 26 on, 2 and below to 0 by all up to 24.
        for v, target, answer in (
            (253, 255, [26, 0]), (254, 255, [26, 0]), (255, 255, [25, 0]), (2, 0, [24, 0]), (0, 0, [25, 0]),
            (1, 0, [24, 0]), (240, 255, [33, 0]), (15, 0, [17, 0]),
        ):
            self.assertEqual(last(LINE, [NEAREST, 1, v, target]), answer, (v, target))
        for level in (0, 100, 255):
            self.assertEqual(last([CURVE, 1, [0, level]], [NEAREST, 1, 77, 100]), [25, abs(100 - level)])

    def test_as_far_off_from_both_sides(self):
        self.assertEqual(last(LINE, [NEAREST, 1, 100, 101]), [25, 1])
        self.assertEqual(last(LINE, [NEAREST, 1, 100, 99]), [25, 1])
        self.assertEqual(last(LINE, [NEAREST, 1, 100, 103]), [26, 1])
        self.assertEqual(last(LINE, [NEAREST, 1, 100, 97]), [24, 1])
        jump = [CURVE, 1, [99, 90, 100, 110]]
        for v, light in ((98, 25), (99, 25), (100, 25), (101, 25), (90, 25), (110, 25)):
            self.assertEqual(last(jump, [NEAREST, 1, v, 100]), [light, 10], v)

    def test_of_two_of_these_the_lower(self):
        # Where a curve never falls, 25 is no further off than such two; so this is asked of a row that falls.
        for away in (1, 2, 24, 25):
            table = [0] * 256
            table[100 - 2 * away] = 90
            table[100 + 2 * away] = 110
            self.assertEqual(nearest_light(table, 100, 100), 25 - away)
            table[100 + 2 * away] = 109
            self.assertEqual(nearest_light(table, 100, 100), 25 + away)

    def test_all_lights_tried(self):
        for number, shape in enumerate(SHAPES):
            table = table_of(shape)
            below = numbers_from(number)
            asked = [(below(256), below(256)) for _ in range(200)]
            got = ask([CURVE, 1, shape], *[[NEAREST, 1, v, target] for v, target in asked])[1:]
            for (v, target), answer in zip(asked, got):
                off, _, light = min((far_off(table, v, target, light), abs(light - 25), light) for light in range(51))
                self.assertEqual(answer, [light, off], (shape, v, target))

    def test_refusals_and_their_order(self):
        for key, v, target, answer in (
            (1, -1, 0, -1), (1, 256, 0, -1), (1, FAR, 0, -1), (1, -FAR, 0, -1),
            (1, 0, -1, -1), (1, 0, 256, -1), (1, 0, FAR, -1), (1, 0, -FAR, -1),
            (0, 0, 0, -1), (100, 0, 0, -1), (FAR, 0, 0, -1), (-FAR, 0, 0, -1), (2, 0, 0, -4), (99, 255, 255, -4),
            (2, 256, 0, -1), (2, 0, 256, -1), (2, -1, 0, -1), (2, 0, -1, -1),
        ):
            self.assertEqual(last(LINE, [NEAREST, key, v, target]), [answer], (key, v, target))
        self.assertEqual(ask(LINE, [NEAREST, 1, 0, 0], [NEAREST, 1, 255, 255])[1:], [[25, 0], [25, 0]])


class Smooth(unittest.TestCase):
    def test_no_pairs(self):
        for apart in (0, 7, 50):
            self.assertEqual(last(LINE, [SMOOTH, 1, apart, []]), [0])

    def test_one_pair(self):
        self.assertEqual(last(LINE, [SMOOTH, 1, 0, [100, 102]]), [0, 26])
        self.assertEqual(last(LINE, [SMOOTH, 1, 50, [100, 255]]), [105, 50])

    def test_of_several_the_first_not_the_nearest_to_25(self):
        self.assertEqual(last(LINE, [SMOOTH, 1, 3, [100, 101]]), [1, 25])
        self.assertEqual(last(LINE, [SMOOTH, 1, 3, [2, 0]]), [0, 0])
        self.assertEqual(last(LINE, [SMOOTH, 1, 3, [240, 255]]), [0, 33])
        self.assertEqual(last([CURVE, 1, [0, 9]], [SMOOTH, 1, 3, [77, 100, 5, 5]]), [95, 0, 0])

    def test_apart_0_is_one_light_for_all(self):
        # Targets 2 more, 6 more and 20 more: the middle one's light is nearest to all.
        self.assertEqual(last(LINE, [SMOOTH, 1, 0, [100, 102, 100, 106, 100, 120]]), [18, 28, 28, 28])
        # Of all lights from 26 to 28 none is better than another.
        self.assertEqual(last(LINE, [SMOOTH, 1, 0, [100, 102, 100, 106]]), [4, 26, 26])

    def test_apart_50_is_each_light_by_itself(self):
        pairs = [100, 150, 100, 50, 100, 150, 100, 100]
        self.assertEqual(last(LINE, [SMOOTH, 1, 50, pairs]), [0, 50, 0, 50, 25])
        self.assertEqual(last(LINE, [SMOOTH, 1, 49, pairs]), [2, 50, 1, 50, 25])

    def test_a_step_at_a_time(self):
        # From light 25 to light 28 and back again.
        pairs = [100, 100, 100, 106, 100, 100]
        self.assertEqual(last(LINE, [SMOOTH, 1, 3, pairs]), [0, 25, 28, 25])
        self.assertEqual(last(LINE, [SMOOTH, 1, 2, pairs]), [2, 25, 27, 25])
        self.assertEqual(last(LINE, [SMOOTH, 1, 1, pairs]), [4, 25, 26, 25])
        self.assertEqual(last(LINE, [SMOOTH, 1, 0, pairs]), [6, 25, 25, 25])

    def test_the_first_of_rows_that_differ_late(self):
        # The second light may be any from 0 to 24: the first light is held, so the least within reach is told.
        self.assertEqual(last(LINE, [SMOOTH, 1, 5, [100, 100, 2, 0]]), [0, 25, 20])
        self.assertEqual(last(LINE, [SMOOTH, 1, 5, [2, 0, 100, 100]]), [0, 20, 25])
        self.assertEqual(last(LINE, [SMOOTH, 1, 40, [2, 0, 100, 100]]), [0, 0, 25])

    def test_against_rows_built_from_the_front(self):
        for number, shape in enumerate(SHAPES):
            table = table_of(shape)
            for many in (1, 2, 5, 12):
                for apart in (0, 1, 4, 20, 50):
                    pairs = some_pairs(100 * number + many + apart, many)
                    got = ask([CURVE, 1, shape], [SMOOTH, 1, apart, pairs])[1]
                    self.assertEqual(got, by_rows(table, apart, pairs), (shape, apart, pairs))

    def test_it_is_what_cost_answers_and_smooth(self):
        for number, shape in enumerate(SHAPES):
            for apart in (0, 1, 3, 10, 49, 50):
                pairs = some_pairs(number + 7 * apart, 12)
                got = ask([CURVE, 1, shape], [SMOOTH, 1, apart, pairs])[1]
                self.assertEqual(len(got), 13)
                self.assertTrue(is_smooth(got[1:], apart))
                self.assertEqual(last([CURVE, 1, shape], [COST, 1, pairs, got[1:]]), got[:1])

    def test_the_ends_of_the_ranges(self):
        for apart, answer in ((0, 13), (50, 13), (-1, 1), (51, 1), (FAR, 1), (-FAR, 1)):
            got = last(LINE, [SMOOTH, 1, apart, TWELVE])
            self.assertEqual(len(got), answer, apart)
            self.assertEqual(got[0] < 0, answer == 1, apart)
        for pairs, answer in (
            ([0, 0], [0, 0]), ([255, 255], [0, 25]), ([-1, 0], [-1]), ([0, -1], [-1]), ([256, 0], [-1]),
            ([0, 256], [-1]),
            ([FAR, 0], [-1]), ([0, FAR], [-1]), ([-FAR, 0], [-1]), ([0, -FAR], [-1]), ([0], [-1]), ([0, 0, 0], [-1]),
            ([0] * 23, [-1]), ([0] * 24, [0] * 13), ([0] * 25, [-1]), ([0] * 26, [-1]), ([0] * 1599, [-1]),
            ([0] * 1600, [-1]), ([FAR] * 1600, [-1]), ([0] * 22 + [0, 256], [-1]),
        ):
            self.assertEqual(last(LINE, [SMOOTH, 1, 5, pairs]), answer, pairs)

    def test_refusals_and_their_order(self):
        for key, apart, pairs, answer in (
            (0, 5, [], -1), (100, 5, [], -1), (FAR, 5, [], -1), (-FAR, 5, [], -1), (2, 5, [], -4), (99, 5, [1, 1], -4),
            (2, 51, [], -1), (2, -1, [1, 1], -1), (2, 5, [1], -1), (2, 5, [256, 0], -1), (2, 5, [0] * 26, -1),
        ):
            self.assertEqual(last(LINE, [SMOOTH, key, apart, pairs]), [answer], (key, apart, pairs))


class Cost(unittest.TestCase):
    def test_worked_out(self):
        for pairs, row, answer in (
            ([], [], 0), ([100, 100], [25], 0), ([100, 100], [26], 2), ([100, 100], [24], 2), ([100, 103], [26], 1),
            ([100, 100], [0], 50), ([100, 100], [50], 50), ([250, 255], [50], 0), ([5, 0], [0], 0),
            ([0, 255], [0], 255),
            ([255, 0], [50], 255), ([100, 100, 100, 100], [24, 27], 6),
        ):
            self.assertEqual(last(LINE, [COST, 1, pairs, row]), [answer], (pairs, row))

    def test_by_the_curve(self):
        table = table_of(SHAPES[8])
        for seed in range(30):
            below = numbers_from(seed)
            pairs = some_pairs(seed, seed % 13)
            row = [below(51) for _ in range(seed % 13)]
            self.assertEqual(last([CURVE, 1, SHAPES[8]], [COST, 1, pairs, row]), [row_far_off(table, pairs, row)])

    def test_rows_need_not_be_smooth(self):
        self.assertEqual(last(LINE, [COST, 1, [100, 100, 100, 100], [0, 50]]), [100])

    def test_the_ends_of_the_ranges(self):
        for pairs, row, answer in (
            ([100, 100], [-1], -1), ([100, 100], [51], -1), ([100, 100], [FAR], -1), ([100, 100], [-FAR], -1),
            ([-1, 0], [25], -1), ([0, 256], [25], -1), ([FAR, 0], [25], -1), ([0, -FAR], [25], -1),
            ([0] * 24, [25] * 12, 0), ([0] * 26, [25] * 13, -1), ([0] * 25, [25] * 12, -1), ([0], [], -1),
            ([0] * 1600, [], -1), ([], [0] * 1600, -3), ([], [FAR] * 1600, -1), ([], [51] * 1600, -1),
            ([0] * 1600, [0] * 800, -1), ([], [50] * 1599, -3), ([0] * 24, [25] * 11 + [51], -1),
        ):
            self.assertEqual(last(LINE, [COST, 1, pairs, row]), [answer], (len(pairs), len(row)))

    def test_not_as_many_lights_as_pairs(self):
        for pairs, row in (([], [0]), ([1, 1], []), ([1, 1], [0, 0]), ([0] * 24, [25] * 11), ([0] * 24, [25] * 13)):
            self.assertEqual(last(LINE, [COST, 1, pairs, row]), [-3], (pairs, row))

    def test_refusals_and_their_order(self):
        for key, pairs, row, answer in (
            (0, [1, 1], [1], -1), (100, [1, 1], [1], -1), (FAR, [], [], -1), (-FAR, [], [], -1),
            (2, [1, 1], [1], -4), (99, [], [], -4),
            (0, [1, 1], [], -3), (100, [], [1], -3), (FAR, [], [1], -3), (2, [1, 1], [1, 1], -3),
            (2, [1, 1], [51, 1], -1), (2, [256, 1], [1, 1], -1), (2, [1], [1], -1), (2, [], [51], -1),
        ):
            self.assertEqual(last(LINE, [COST, key, pairs, row]), [answer], (key, pairs, row))


class Promise3(unittest.TestCase):
    def no_better_row(self, shape, apart, pairs):
        table = table_of(shape)
        got = last([CURVE, 1, shape], [SMOOTH, 1, apart, pairs])
        offs = [
            [far_off(table, pairs[k], pairs[k + 1], light) for light in range(51)] for k in range(0, len(pairs), 2)
        ]
        for row in itertools.product(range(51), repeat=len(offs)):
            if is_smooth(row, apart):
                total = sum(off[light] for off, light in zip(offs, row))
                self.assertGreaterEqual((total, list(row)), (got[0], got[1:]), (shape, apart, pairs))

    def test_two_lights(self):
        for number, shape in enumerate(SHAPES):
            for apart in (0, 1, 10, 50):
                self.no_better_row(shape, apart, some_pairs(number + 50 * apart, 2))

    def test_three_lights(self):
        for apart in (0, 2, 25):
            self.no_better_row(SHAPES[8], apart, some_pairs(apart, 3))

    def test_rows_near_the_one_told(self):
        # Each stretch of a row of twelve, of whatever length, with one light in its place.
        for number, shape in enumerate(SHAPES):
            table = table_of(shape)
            for apart in (0, 2, 9):
                pairs = some_pairs(3 * number + apart, 12)
                got = last([CURVE, 1, shape], [SMOOTH, 1, apart, pairs])
                for place, wide, light in itertools.product(range(12), range(1, 13), range(51)):
                    row = got[1:1 + place] + [light] * wide + got[1 + place + wide:]
                    row = row[:12]
                    if is_smooth(row, apart):
                        self.assertGreaterEqual((row_far_off(table, pairs, row), row), (got[0], got[1:]))


if __name__ == "__main__":
    unittest.main()
