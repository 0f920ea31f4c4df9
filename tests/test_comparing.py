"""The calls holes, same, below."""

import unittest

from tests.helper import BELOW, CURVE, FAR, HOLES, SAME, STRAIGHT, last, table_of
from tests.test_turning import SHAPES


class Holes(unittest.TestCase):
    def test_worked_out(self):
        for shape, answer in (
            (STRAIGHT, [0, 0]),
            ([0, 7], [255, 0]),
            ([99, 0, 100, 255], [254, 254]),
            ([10, 20, 12, 40], [253, 18]),
            ([0, 0, 255, 128], [127, 0]),
            ([254, 3, 255, 5], [254, 1]),
            ([0, 3, 1, 5], [254, 1]),
        ):
            self.assertEqual(last([CURVE, 1, shape], [HOLES, 1]), answer, shape)

    def test_against_the_sentence(self):
        for shape in SHAPES:
            table = table_of(shape)
            same = len([x for x in range(1, 256) if table[x] == table[x - 1]])
            holes = len([y for y in range(min(table), max(table)) if y not in table])
            self.assertEqual(last([CURVE, 1, shape], [HOLES, 1]), [same, holes], shape)

    def test_refusals(self):
        for key, answer in ((0, -1), (100, -1), (FAR, -1), (-FAR, -1), (1, -4), (99, -4)):
            self.assertEqual(last([CURVE, 50, STRAIGHT], [HOLES, key]), [answer], key)


class SameAndBelow(unittest.TestCase):
    def test_same(self):
        for one, other, answer in (
            (STRAIGHT, [0, 0, 100, 100, 255, 255], [1]),
            ([0, 7], [255, 7], [1]),
            ([0, 7], [0, 8], [0, 0]),
            ([0, 0, 255, 255], [0, 0, 255, 254], [0, 1]),
            ([254, 3, 255, 4], [254, 3, 255, 5], [0, 255]),
            ([254, 3, 255, 5], [254, 3, 255, 4], [0, 255]),
            ([99, 0, 100, 255], [98, 0, 99, 255], [0, 99]),
        ):
            self.assertEqual(last([CURVE, 1, one], [CURVE, 2, other], [SAME, 1, 2]), answer, (one, other))

    def test_same_as_itself(self):
        self.assertEqual(last([CURVE, 1, [3, 4]], [SAME, 1, 1]), [1])

    def test_below(self):
        for one, other, answer in (
            (STRAIGHT, STRAIGHT, 1),
            ([0, 7], [0, 8], 1),
            ([0, 8], [0, 7], 0),
            ([0, 0, 255, 254], STRAIGHT, 1),
            (STRAIGHT, [0, 0, 255, 254], 0),
            ([254, 3, 255, 5], [254, 3, 255, 4], 0),
            ([254, 3, 255, 4], [254, 3, 255, 5], 1),
            ([0, 1, 1, 1], [0, 0, 1, 1], 0),
            ([0, 128], STRAIGHT, 0),
            (STRAIGHT, [0, 128], 0),
        ):
            self.assertEqual(last([CURVE, 1, one], [CURVE, 2, other], [BELOW, 1, 2]), [answer], (one, other))

    def test_refusals_and_their_order(self):
        for call in (SAME, BELOW):
            for a, b, answer in (
                (50, 50, 1), (0, 50, -1), (100, 50, -1), (FAR, 50, -1), (-FAR, 50, -1), (1, 50, -4), (99, 50, -4),
                (50, 0, -1), (50, 100, -1), (50, FAR, -1), (50, -FAR, -1), (50, 1, -4), (50, 99, -4),
                (1, 0, -4), (99, 100, -4), (1, FAR, -4), (0, 1, -1), (1, 2, -4), (0, 0, -1),
            ):
                self.assertEqual(last([CURVE, 50, STRAIGHT], [call, a, b]), [answer], (call, a, b))


if __name__ == "__main__":
    unittest.main()
