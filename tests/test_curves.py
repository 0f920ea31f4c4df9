"""The calls curve, table, at, drop, curves."""

import unittest

from tests.helper import AT, CURVE, CURVES, DROP, FAR, STRAIGHT, TABLE, ask, eight_curves, last, table_of


def through(points, x):
    """What the document's sentence says of one value, by a search rather than a walk."""
    pairs = [(points[k], points[k + 1]) for k in range(0, len(points), 2)]
    if x <= pairs[0][0]:
        return pairs[0][1]
    if x >= pairs[-1][0]:
        return pairs[-1][1]
    for (a, b), (c, d) in zip(pairs, pairs[1:]):
        if a <= x <= c:
            return b + (d - b) * (x - a) // (c - a)


class ThroughPoints(unittest.TestCase):
    def test_straight(self):
        self.assertEqual(table_of(STRAIGHT), list(range(256)))

    def test_one_point_is_level(self):
        self.assertEqual(table_of([100, 7]), [7] * 256)
        self.assertEqual(table_of([0, 0]), [0] * 256)
        self.assertEqual(table_of([255, 255]), [255] * 256)

    def test_before_the_first_and_behind_the_last(self):
        table = table_of([10, 20, 12, 40])
        self.assertEqual(table, [20] * 11 + [30] + [40] * 244)

    def test_rounding_down_between(self):
        self.assertEqual(table_of([0, 0, 3, 2])[:5], [0, 0, 1, 2, 2])
        self.assertEqual(table_of([0, 5, 4, 8])[:6], [5, 5, 6, 7, 8, 8])
        self.assertEqual(table_of([0, 0, 255, 254])[:3], [0, 0, 1])
        self.assertEqual(table_of([0, 0, 255, 254])[254:], [253, 254])

    def test_a_jump_and_a_level_stretch(self):
        table = table_of([99, 0, 100, 255])
        self.assertEqual(table, [0] * 100 + [255] * 156)
        table = table_of([0, 3, 200, 3, 201, 9])
        self.assertEqual(table, [3] * 201 + [9] * 55)

    def test_against_the_sentence(self):
        for points in (
            [0, 0, 255, 1],
            [7, 11, 8, 200, 250, 201],
            [0, 10, 17, 10, 40, 99, 41, 99, 255, 255],
            [number for k in range(20) for number in (13 * k, 13 * k + k % 7)],
        ):
            self.assertEqual(table_of(points), [through(points, x) for x in range(256)])

    def test_twenty_points_and_twenty_one(self):
        twenty = [number for k in range(20) for number in (k, 10 * k)]
        self.assertEqual(last([CURVE, 1, twenty]), [0])
        self.assertEqual(table_of(twenty)[:21], [10 * k for k in range(20)] + [190])
        self.assertEqual(last([CURVE, 1, twenty + [20, 200]]), [-1])


class CurveRefusals(unittest.TestCase):
    def test_keys(self):
        for key, answer in ((1, 0), (99, 0), (0, -1), (100, -1), (-1, -1), (FAR, -1), (-FAR, -1)):
            self.assertEqual(last([CURVE, key, STRAIGHT]), [answer], key)

    def test_values(self):
        for points, answer in (
            ([0, 0], 0), ([255, 255], 0), ([0, 255], 0), ([255, 0], 0),
            ([-1, 0], -1), ([0, -1], -1), ([256, 0], -1), ([0, 256], -1),
            ([FAR, 0], -1), ([0, FAR], -1), ([-FAR, 0], -1), ([0, -FAR], -1),
            ([0, 0, 255, 256], -1), ([0, 0, 256, 255], -1),
        ):
            self.assertEqual(last([CURVE, 1, points]), [answer], points)

    def test_lengths(self):
        for points in ([], [1], [1, 1, 2], [1] * 41, [0] * 42, [0] * 1599, [0] * 1600, [FAR] * 1600):
            self.assertEqual(last([CURVE, 1, points]), [-1], len(points))

    def test_points_not_as_told(self):
        for points in (
            [5, 1, 5, 2], [5, 1, 4, 2], [0, 9, 1, 8], [0, 0, 10, 10, 10, 20], [0, 0, 10, 10, 9, 20],
            [0, 0, 10, 10, 20, 9], [0, 255, 255, 0],
        ):
            self.assertEqual(last([CURVE, 1, points]), [-3], points)

    def test_equal_second_numbers_are_as_told(self):
        self.assertEqual(last([CURVE, 1, [0, 9, 1, 9, 2, 9]]), [0])

    def test_order(self):
        falling = [5, 5, 4, 4]
        full = eight_curves()
        self.assertEqual(last(*full, [CURVE, 0, falling]), [-1])
        self.assertEqual(last(*full, [CURVE, 9, [5, 5, 4, 256]]), [-1])
        self.assertEqual(last(*full, [CURVE, 9, [5, 5, 4, 4, 3]]), [-1])
        self.assertEqual(last(*full, [CURVE, 9, falling]), [-3])
        self.assertEqual(last(*full, [CURVE, 9, STRAIGHT]), [-9])

    def test_in_the_place_of_another_is_no_ninth(self):
        got = ask(*eight_curves(), [CURVE, 8, [0, 4]], [CURVES], [AT, 8, 200], [AT, 7, 200])
        self.assertEqual(got[8:], [[0], [8, 1, 2, 3, 4, 5, 6, 7, 8], [4], [200]])

    def test_dropped_leaves_room(self):
        got = ask(*eight_curves(), [DROP, 3], [CURVE, 99, STRAIGHT], [CURVE, 3, STRAIGHT], [CURVES])
        self.assertEqual(got[8:], [[0], [0], [-9], [8, 1, 2, 4, 5, 6, 7, 8, 99]])


class TableAndAt(unittest.TestCase):
    def test_table_has_256_numbers(self):
        self.assertEqual(last([CURVE, 99, [0, 1, 255, 2]], [TABLE, 99]), [1] * 255 + [2])

    def test_table_refusals(self):
        for key, answer in ((0, -1), (100, -1), (FAR, -1), (-FAR, -1), (1, -4), (99, -4)):
            self.assertEqual(last([CURVE, 50, STRAIGHT], [TABLE, key]), [answer], key)

    def test_at(self):
        curve = [CURVE, 1, [10, 20, 12, 40]]
        for x, y in ((0, 20), (10, 20), (11, 30), (12, 40), (255, 40)):
            self.assertEqual(last(curve, [AT, 1, x]), [y], x)

    def test_at_refusals(self):
        curve = [CURVE, 50, STRAIGHT]
        for key, x, answer in (
            (50, -1, -1), (50, 256, -1), (50, FAR, -1), (50, -FAR, -1),
            (0, 0, -1), (100, 0, -1), (FAR, 0, -1), (-FAR, 0, -1),
            (1, 0, -4), (99, 255, -4), (1, 256, -1), (1, -1, -1), (0, -1, -1),
        ):
            self.assertEqual(last(curve, [AT, key, x]), [answer], (key, x))


class DropAndCurves(unittest.TestCase):
    def test_a_new_house_has_none(self):
        self.assertEqual(ask([CURVES]), [[0]])

    def test_keys_rise(self):
        got = last([CURVE, 99, STRAIGHT], [CURVE, 1, STRAIGHT], [CURVE, 10, STRAIGHT], [CURVE, 9, STRAIGHT], [CURVES])
        self.assertEqual(got, [4, 1, 9, 10, 99])

    def test_drop(self):
        got = ask([CURVE, 4, STRAIGHT], [CURVE, 5, [0, 5]], [DROP, 4], [CURVES], [TABLE, 4], [AT, 5, 0], [DROP, 4])
        self.assertEqual(got[2:], [[0], [1, 5], [-4], [5], [-4]])

    def test_drop_refusals(self):
        for key, answer in ((0, -1), (100, -1), (FAR, -1), (-FAR, -1), (1, -4), (99, -4)):
            got = ask([CURVE, 50, STRAIGHT], [DROP, key], [CURVES])
            self.assertEqual(got[1:], [[answer], [1, 50]], key)


if __name__ == "__main__":
    unittest.main()
