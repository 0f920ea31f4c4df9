"""The calls compose, low, high, and promise 2."""

import unittest

from tests.helper import AT, COMPOSE, CURVE, CURVES, FAR, HIGH, LOW, STRAIGHT, TABLE, ask, eight_curves, last, table_of

SHAPES = (
    STRAIGHT,
    [0, 0],
    [0, 255],
    [128, 77],
    [0, 10, 255, 240],
    [99, 0, 100, 255],
    [0, 255, 1, 255],
    [254, 0, 255, 1],
    [0, 0, 50, 0, 51, 100, 120, 100, 200, 180, 201, 255],
    [20, 3, 30, 200, 31, 200, 250, 201],
    [0, 0, 255, 128],
    [100, 0, 227, 254],
)


def below(table, y):
    return min([x for x in range(256) if table[x] >= y], default=255)


def above(table, y):
    return max([x for x in range(256) if table[x] <= y], default=0)


class Compose(unittest.TestCase):
    def test_first_a_then_b(self):
        got = ask(
            [CURVE, 1, [0, 10, 255, 10]], [CURVE, 2, [10, 77, 11, 200]],
            [COMPOSE, 1, 2, 3], [AT, 3, 0], [COMPOSE, 2, 1, 4], [AT, 4, 0],
        )
        self.assertEqual(got[2:], [[0], [77], [0], [10]])

    def test_all_pairs(self):
        for first in SHAPES:
            for second in SHAPES:
                f = table_of(first)
                g = table_of(second)
                got = last([CURVE, 1, first], [CURVE, 2, second], [COMPOSE, 1, 2, 3], [TABLE, 3])
                self.assertEqual(got, [g[f[x]] for x in range(256)])

    def test_into_its_own_place(self):
        shape = [0, 0, 255, 128]
        half = table_of(shape)
        twice = [half[half[x]] for x in range(256)]
        self.assertEqual(last([CURVE, 1, shape], [COMPOSE, 1, 1, 1], [TABLE, 1]), twice)
        got = ask([CURVE, 1, shape], [CURVE, 2, shape], [COMPOSE, 1, 2, 2], [TABLE, 2], [TABLE, 1])
        self.assertEqual(got[3:], [twice, half])

    def test_refusals_and_their_order(self):
        for a, b, new, answer in (
            (1, 1, 0, -1), (1, 1, 100, -1), (1, 1, FAR, -1), (1, 1, -FAR, -1), (1, 1, 99, 0),
            (0, 1, 2, -1), (100, 1, 2, -1), (-FAR, 1, 2, -1), (FAR, 1, 2, -1), (98, 1, 2, -4),
            (1, 0, 2, -1), (1, 100, 2, -1), (1, -FAR, 2, -1), (1, FAR, 2, -1), (1, 98, 2, -4),
            (98, 1, 0, -1), (1, 98, 100, -1), (98, 0, 2, -4), (98, FAR, 2, -4), (0, 98, 2, -1), (98, 97, 2, -4),
        ):
            got = last([CURVE, 1, STRAIGHT], [COMPOSE, a, b, new])
            self.assertEqual(got, [answer], (a, b, new))

    def test_a_ninth(self):
        full = eight_curves()
        self.assertEqual(last(*full, [COMPOSE, 1, 2, 9]), [-9])
        self.assertEqual(last(*full, [COMPOSE, 1, 2, 8]), [0])
        self.assertEqual(last(*full, [COMPOSE, 1, 9, 9]), [-4])
        self.assertEqual(last(*full, [COMPOSE, 9, 1, 9]), [-4])
        self.assertEqual(last(*full, [COMPOSE, 1, 100, 9]), [-1])
        self.assertEqual(last(*full, [COMPOSE, 1, 9, 0]), [-1])


class LowAndHigh(unittest.TestCase):
    def test_a_level_stretch_and_a_jump(self):
        shape = [0, 10, 9, 10, 10, 20, 19, 20, 20, 30]
        got = ask([CURVE, 1, shape], [LOW, 1, 2], [HIGH, 1, 3], [TABLE, 2], [TABLE, 3])
        self.assertEqual(got[1:3], [[0], [0]])
        self.assertEqual(got[3], [0] * 11 + [10] * 10 + [20] * 10 + [255] * 225)
        self.assertEqual(got[4], [0] * 10 + [9] * 10 + [19] * 10 + [255] * 226)

    def test_no_such_value(self):
        got = ask([CURVE, 1, [0, 100]], [LOW, 1, 2], [HIGH, 1, 3], [TABLE, 2], [TABLE, 3])
        self.assertEqual(got[3], [0] * 101 + [255] * 155)
        self.assertEqual(got[4], [0] * 100 + [255] * 156)

    def test_against_the_sentence(self):
        for shape in SHAPES:
            table = table_of(shape)
            got = ask([CURVE, 1, shape], [LOW, 1, 2], [HIGH, 1, 3], [TABLE, 2], [TABLE, 3], [TABLE, 1])
            self.assertEqual(got[3], [below(table, y) for y in range(256)], shape)
            self.assertEqual(got[4], [above(table, y) for y in range(256)], shape)
            self.assertEqual(got[5], table)

    def test_into_its_own_place(self):
        shape = [99, 0, 100, 255]
        self.assertEqual(last([CURVE, 1, shape], [LOW, 1, 1], [TABLE, 1]), [0] + [100] * 255)
        self.assertEqual(last([CURVE, 1, shape], [HIGH, 1, 1], [TABLE, 1]), [99] * 255 + [255])

    def test_promise_2(self):
        brought_back = 0
        for shape in SHAPES:
            table = table_of(shape)
            for turn in (LOW, HIGH):
                back = last([CURVE, 1, shape], [turn, 1, 2], [COMPOSE, 1, 2, 3], [TABLE, 3])
                alone = [x for x in range(256) if table.count(table[x]) == 1]
                self.assertEqual([back[x] for x in alone], alone)
                brought_back += len(alone)
        self.assertGreater(brought_back, 1000)

    def test_refusals_and_their_order(self):
        for turn in (LOW, HIGH):
            for key, new, answer in (
                (1, 99, 0), (1, 1, 0), (1, 0, -1), (1, 100, -1), (1, FAR, -1), (1, -FAR, -1),
                (0, 2, -1), (100, 2, -1), (FAR, 2, -1), (-FAR, 2, -1), (2, 3, -4), (99, 3, -4),
                (99, 0, -1), (99, 100, -1), (0, 0, -1),
            ):
                self.assertEqual(last([CURVE, 1, STRAIGHT], [turn, key, new]), [answer], (turn, key, new))

    def test_a_ninth(self):
        for turn in (LOW, HIGH):
            got = ask(
                *eight_curves(), [turn, 1, 9], [turn, 9, 9], [turn, 0, 9], [turn, 9, 0], [turn, 1, 8], [CURVES],
            )
            self.assertEqual(got[8:], [[-9], [-4], [-1], [-1], [0], [8, 1, 2, 3, 4, 5, 6, 7, 8]])


if __name__ == "__main__":
    unittest.main()
