"""The calls fit, blocks, error, and promise 1."""

import itertools
import unittest
from fractions import Fraction

from tests.helper import BLOCKS, CURVE, CURVES, ERROR, FAR, FIT, STRAIGHT, TABLE, ask, eight_curves, last


def threes(measured):
    return [tuple(measured[k:k + 3]) for k in range(0, len(measured), 3)]


def sums(measured):
    """For each x, rising: x, the sum, the weight."""
    found = []
    for x in sorted({three[0] for three in threes(measured)}):
        here = [three for three in threes(measured) if three[0] == x]
        found.append((x, sum(y * w for _, y, w in here), sum(w for _, _, w in here)))
    return found


def best_fractions(measured):
    """The nearest rising row by the greatest of least means, without any blocks being made one."""
    found = sums(measured)

    def mean(i, k):
        return Fraction(sum(s for _, s, _ in found[i:k + 1]), sum(w for _, _, w in found[i:k + 1]))

    places = range(len(found))
    return {
        found[p][0]: max(min(mean(i, k) for k in places if k >= p) for i in places if i <= p) for p in places
    }


def blocks_by_sentence(measured):
    """Blocks made one from the back, one at a time, just as the document tells."""
    blocks = [(x, x, s, w) for x, s, w in sums(measured)]
    while True:
        falls = [
            k for k in range(1, len(blocks))
            if Fraction(blocks[k][2], blocks[k][3]) < Fraction(blocks[k - 1][2], blocks[k - 1][3])
        ]
        if not falls:
            return [len(blocks)] + [number for block in blocks for number in block]
        k = falls[-1]
        one, other = blocks[k - 1], blocks[k]
        blocks[k - 1:k + 1] = [(one[0], other[1], one[2] + other[2], one[3] + other[3])]


def error(row, measured):
    return sum(w * (y - row[x]) ** 2 for x, y, w in threes(measured))


def small_inputs():
    for ys in itertools.product(range(4), repeat=4):
        yield [number for k in range(4) for number in (10 * k, ys[k], 1 + (5 * k + ys[k]) % 3)]
    for ys in itertools.product((0, 1, 5), repeat=3):
        for ws in itertools.product((1, 2, 1000), repeat=3):
            yield [number for k in range(3) for number in ((200, 0, 255)[k], ys[k], ws[k])]
    for ys in itertools.product(range(4), repeat=4):
        yield [number for k in range(4) for number in ((7, 3, 7, 8)[k], ys[k], (2, 1, 1, 3)[k])]


def long_input(seed):
    state = seed
    found = []
    for _ in range(30):
        for most, least in ((40, 0), (256, 0), (1000, 1)):
            state = (state * 1103515245 + 12345) % 2147483648
            found.append(least + (state >> 8) % most)
    return found


class Blocks(unittest.TestCase):
    def test_worked_out(self):
        for measured, answer in (
            ([5, 9, 2], [1, 5, 5, 18, 2]),
            ([0, 10, 1, 1, 20, 1], [2, 0, 0, 10, 1, 1, 1, 20, 1]),
            ([0, 20, 1, 1, 10, 1], [1, 0, 1, 30, 2]),
            ([1, 10, 1, 0, 20, 1], [1, 0, 1, 30, 2]),
            ([1, 20, 3, 0, 10, 1], [2, 0, 0, 10, 1, 1, 1, 60, 3]),
            ([4, 1, 1, 4, 3, 5, 4, 2, 10], [1, 4, 4, 36, 16]),
            ([0, 0, 1, 255, 255, 1000], [2, 0, 0, 0, 1, 255, 255, 255000, 1000]),
        ):
            self.assertEqual(last([BLOCKS, measured]), answer, measured)

    def test_equal_means_stay_apart(self):
        self.assertEqual(last([BLOCKS, [0, 7, 1, 1, 7, 5]]), [2, 0, 0, 7, 1, 1, 1, 35, 5])
        got = last([BLOCKS, [0, 15, 2, 1, 20, 1, 2, 10, 1]])
        self.assertEqual(got, [2, 0, 0, 30, 2, 1, 2, 30, 2])

    def test_fractions_are_compared_without_rounding(self):
        self.assertEqual(last([BLOCKS, [0, 1, 1, 0, 2, 2, 1, 1, 3, 1, 2, 5]])[0], 1)
        self.assertEqual(last([BLOCKS, [0, 1, 3, 0, 2, 5, 1, 1, 1, 1, 2, 2]])[0], 2)

    def test_several_become_one(self):
        got = last([BLOCKS, [0, 5, 1, 10, 10, 1, 20, 20, 1, 30, 30, 1, 40, 0, 4]])
        self.assertEqual(got, [2, 0, 0, 5, 1, 10, 40, 60, 7])
        got = last([BLOCKS, [0, 5, 1, 10, 10, 1, 20, 20, 1, 30, 30, 1, 40, 0, 1]])
        self.assertEqual(got, [3, 0, 0, 5, 1, 10, 10, 10, 1, 20, 40, 50, 3])
        got = last([BLOCKS, [0, 50, 1, 1, 40, 1, 2, 30, 1, 3, 20, 1]])
        self.assertEqual(got, [1, 0, 3, 140, 4])

    def test_in_whichever_order(self):
        for measured in list(small_inputs()) + [long_input(seed) for seed in range(20)]:
            self.assertEqual(last([BLOCKS, measured]), blocks_by_sentence(measured))

    def test_the_order_of_the_threes_is_nothing(self):
        measured = long_input(3)
        turned = [number for three in reversed(threes(measured)) for number in three]
        self.assertEqual(last([BLOCKS, measured]), last([BLOCKS, turned]))
        self.assertEqual(ask([FIT, 1, measured], [TABLE, 1]), ask([FIT, 1, turned], [TABLE, 1]))


class Fit(unittest.TestCase):
    def test_worked_out(self):
        got = ask([FIT, 1, [10, 100, 1, 20, 110, 1]], [TABLE, 1])
        self.assertEqual(got, [[0], [100] * 10 + list(range(100, 110)) + [110] * 236])
        got = ask([FIT, 1, [10, 100, 3, 20, 90, 1]], [TABLE, 1])
        self.assertEqual(got, [[3 * 4 + 64], [98] * 256])

    def test_halves_go_up(self):
        for measured, height, wrong in (
            ([0, 1, 1, 0, 2, 1], 2, 1),
            ([0, 2, 1, 1, 1, 1], 2, 1),
            ([0, 1, 3, 0, 2, 2], 1, 2),
            ([0, 1, 2, 0, 2, 3], 2, 2),
            ([0, 0, 1, 0, 1, 1], 1, 1),
            ([0, 254, 7, 0, 255, 7], 255, 7),
        ):
            self.assertEqual(ask([FIT, 1, measured], [TABLE, 1]), [[wrong], [height] * 256], measured)

    def test_each_measured_x_is_a_point(self):
        got = last([FIT, 1, [0, 0, 1, 10, 30, 1, 20, 10, 1, 30, 40, 1]], [TABLE, 1])
        self.assertEqual(got[:11], [2 * x for x in range(11)])
        self.assertEqual(got[10:21], [20] * 11)
        self.assertEqual(got[20:31], [20 + 2 * x for x in range(11)])
        self.assertEqual(got[30:], [40] * 226)

    def test_the_curve_never_falls(self):
        for seed in range(20):
            table = last([FIT, 1, long_input(seed)], [TABLE, 1])
            self.assertEqual(table, sorted(table))

    def test_in_the_place_of_another(self):
        got = ask(*eight_curves(), [FIT, 8, [0, 3, 1]], [TABLE, 8], [FIT, 9, [0, 3, 1]], [CURVES])
        self.assertEqual(got[8:], [[0], [3] * 256, [-9], [8, 1, 2, 3, 4, 5, 6, 7, 8]])


class PromiseOne(unittest.TestCase):
    def test_no_rising_curve_has_a_lesser_error(self):
        for measured in small_inputs():
            told = last([FIT, 1, measured])[0]
            xs = sorted({three[0] for three in threes(measured)})
            for ys in itertools.combinations_with_replacement(range(7), len(xs)):
                self.assertLessEqual(told, error(dict(zip(xs, ys)), measured), measured)

    def test_the_error_told_is_that_of_the_curve(self):
        for measured in list(small_inputs())[::9] + [long_input(seed) for seed in range(20)]:
            told, table, again = ask([FIT, 1, measured], [TABLE, 1], [ERROR, 1, measured])
            self.assertEqual(told, [error(table, measured)])
            self.assertEqual(again, told)

    def test_the_curve_is_at_the_rounded_means(self):
        for measured in list(small_inputs())[::9] + [long_input(seed) for seed in range(20)]:
            table = last([FIT, 1, measured], [TABLE, 1])
            for x, mean in best_fractions(measured).items():
                self.assertEqual(table[x], (2 * mean + 1) // 2, measured)

    def test_the_means_are_nearer_than_any_other_row(self):
        steps = [Fraction(k, 2) for k in range(9)]
        for measured in list(small_inputs())[::7]:
            got = last([BLOCKS, measured])
            xs = sorted({three[0] for three in threes(measured)})
            row = {}
            for k in range(got[0]):
                first, final, total, weight = got[1 + 4 * k:5 + 4 * k]
                row.update({x: Fraction(total, weight) for x in xs if first <= x <= final})
            self.assertEqual(row, best_fractions(measured))
            least = error(row, measured)
            for ys in itertools.combinations_with_replacement(steps, len(xs)):
                other = dict(zip(xs, ys))
                if other != row:
                    self.assertLess(least, error(other, measured), measured)


class Error(unittest.TestCase):
    def test_worked_out(self):
        for measured, answer in (
            ([0, 0, 1], 0),
            ([10, 13, 1], 9),
            ([13, 10, 5], 45),
            ([10, 13, 1, 10, 8, 2, 0, 1, 1000], 9 + 8 + 1000),
            ([0, 255, 1000], 65025000),
            ([0, 255, 1000] * 30, 1950750000),
        ):
            self.assertEqual(last([CURVE, 1, STRAIGHT], [ERROR, 1, measured]), [answer], measured[:12])

    def test_refusals_and_their_order(self):
        for key, measured, answer in (
            (1, [], -1), (2, [], -1), (0, [], -1), (2, [0, 0], -1), (2, [0, 0, 0], -1), (2, [256, 0, 1], -1),
            (0, [0, 0, 1], -1), (100, [0, 0, 1], -1), (FAR, [0, 0, 1], -1), (-FAR, [0, 0, 1], -1),
            (2, [0, 0, 1], -4), (99, [0, 0, 1], -4), (1, [0, 0, 1], 0),
        ):
            self.assertEqual(last([CURVE, 1, STRAIGHT], [ERROR, key, measured]), [answer], (key, measured))


class Measured(unittest.TestCase):
    def answers_of(self, measured):
        curve = [CURVE, 1, STRAIGHT]
        return [
            last(curve, [FIT, 1, measured])[0], last(curve, [BLOCKS, measured])[0], last(curve, [ERROR, 1, measured])[0]
        ]

    def test_refused(self):
        for measured in (
            [], [0], [0, 0], [0, 0, 1, 0], [0, 0, 1, 0, 0], [0, 0, 1] * 31, [1] * 89, [1] * 91, [1] * 92,
            [1] * 1599, [1] * 1600, [FAR] * 1599, [-FAR] * 1600,
            [-1, 0, 1], [256, 0, 1], [0, -1, 1], [0, 256, 1], [0, 0, 0], [0, 0, 1001], [0, 0, -1],
            [FAR, 0, 1], [-FAR, 0, 1], [0, FAR, 1], [0, -FAR, 1], [0, 0, FAR], [0, 0, -FAR],
            [0, 0, 1] * 29 + [0, 0, 0], [0, 0, 1, 256, 0, 1],
        ):
            self.assertEqual(self.answers_of(measured), [-1, -1, -1], measured[:12])

    def test_taken(self):
        for measured in ([0, 0, 1], [255, 255, 1000], [0, 255, 1], [255, 0, 1000], [0, 0, 1] * 30, long_input(1)):
            self.assertTrue(all(first >= 0 for first in self.answers_of(measured)), measured[:12])

    def test_thirty_points_of_a_fit(self):
        measured = [number for k in range(30) for number in (8 * k, 8 * k, 1)]
        self.assertEqual(last([FIT, 1, measured], [TABLE, 1]), list(range(233)) + [232] * 23)

    def test_fit_refusals_and_their_order(self):
        for new, measured, answer in (
            (0, [0, 0, 1], -1), (100, [0, 0, 1], -1), (FAR, [0, 0, 1], -1), (-FAR, [0, 0, 1], -1),
            (9, [], -1), (9, [0, 0, 0], -1), (9, [0, 0, 1, 0], -1), (0, [], -1), (9, [0, 0, 1], -9), (1, [0, 0, 1], 0),
        ):
            self.assertEqual(last(*eight_curves(), [FIT, new, measured]), [answer], (new, measured))
        self.assertEqual(last([FIT, 1, [0, 0, 1]]), [0])
        self.assertEqual(last([FIT, 99, [0, 0, 1]]), [0])


if __name__ == "__main__":
    unittest.main()
