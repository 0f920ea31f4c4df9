"""What holds of all calls: the form of calls and answers, and that a refused call changes nothing."""

import unittest

from printlights.house import answers
from tests.helper import (
    AT, BELOW, BLOCKS, COMPOSE, CURVE, CURVES, DROP, ERROR, FAR, FIT, HIGH, HOLES, LOW, SAME, SHEET, STRAIGHT, TABLE,
    ask, eight_curves, flat, state_calls,
)

TEXT = list(b"scene 1 frames 10 lights 25 25 25 in 2\n")

EVERY_CALL = [
    [CURVE, 1, [0, 0, 255, 128]], [TABLE, 1], [AT, 1, 255], [COMPOSE, 1, 1, 2], [LOW, 1, 3], [HIGH, 1, 4], [HOLES, 1],
    [FIT, 5, [0, 10, 1, 1, 5, 2]], [BLOCKS, [0, 10, 1, 1, 5, 2]], [ERROR, 5, [0, 10, 1]], [SAME, 1, 2], [BELOW, 2, 1],
    [DROP, 4], [CURVES], [SHEET, TEXT],
]

WIDE_ROWS = ([FAR] * 1600, [-FAR] * 1600, [0] * 1600, [1] * 1600, [1] * 1599)

REFUSED = [
    [CURVE, 9, STRAIGHT], [CURVE, 0, STRAIGHT], [CURVE, 1, [5, 5, 5, 6]], [CURVE, 1, [5, 5, 6, 4]], [CURVE, 1, [1]],
    [TABLE, 9], [TABLE, 0], [AT, 9, 0], [AT, 1, 256], [AT, 0, 0],
    [COMPOSE, 1, 2, 9], [COMPOSE, 9, 1, 1], [COMPOSE, 1, 9, 1], [COMPOSE, 1, 1, 0], [COMPOSE, 0, 1, 1],
    [LOW, 1, 9], [LOW, 9, 1], [LOW, 1, 0], [HIGH, 1, 9], [HIGH, 9, 1], [HIGH, 1, 0], [HOLES, 9], [HOLES, 0],
    [FIT, 9, [0, 0, 1]], [FIT, 1, [0, 0, 0]], [FIT, 0, [0, 0, 1]], [FIT, 1, []], [BLOCKS, []],
    [ERROR, 9, [0, 0, 1]], [ERROR, 1, []], [SAME, 1, 9], [SAME, 9, 1], [BELOW, 1, 9], [BELOW, 9, 1],
    [DROP, 9], [DROP, 0], [SHEET, [256]], [SHEET, [32] * 1501],
] + [[call, 1, list(row)] for call in (CURVE, FIT, ERROR) for row in WIDE_ROWS] + [
    [call, list(row)] for call in (BLOCKS, SHEET) for row in WIDE_ROWS
] + [
    [call, far] + [far] * more
    for far in (FAR, -FAR)
    for call, more in ((TABLE, 0), (AT, 1), (COMPOSE, 2), (LOW, 1), (HIGH, 1), (HOLES, 0), (SAME, 1), (BELOW, 1), (DROP, 0))
]


class Form(unittest.TestCase):
    def test_how_many_numbers_then_these(self):
        self.assertEqual(answers([13]), [1, 0])
        self.assertEqual(answers([0, 7, 2, 0, 5, 2, 7, 0, 13, 2, 8, 0]), [1, 0, 1, 5, 2, 1, 7, 1, -4])
        self.assertEqual(answers([14, 0]), [2, 0, 0])
        self.assertEqual(answers([14, 1, 120]), [3, 1, 1, 1])
        self.assertEqual(answers([8, 0, 8, 3, 1, 2, 3]), [1, -1, 5, 1, 1, 1, 6, 3])
        self.assertEqual(answers([0, 1, 2, 9, 9, 1, 1]), [1, 0, 256] + [9] * 256)

    def test_every_call(self):
        got = ask(*EVERY_CALL)
        self.assertEqual(got[1], [x * 128 // 255 for x in range(256)])
        rest = got[:1] + got[2:]
        self.assertEqual(rest, [
            [0], [128], [0], [0], [0], [127, 0], [17], [1, 0, 1, 20, 3], [9], [0, 2], [1], [0], [4, 1, 2, 3, 5], [0, 1],
        ])

    def test_what_comes_behind_a_refused_call_is_read(self):
        for call in REFUSED:
            got = ask(*eight_curves(), call, [CURVES])
            self.assertEqual(got[9], [8, 1, 2, 3, 4, 5, 6, 7, 8], call[:6])

    def test_four_hundred_calls(self):
        got = ask(*[[CURVE, 1 + k % 8, [0, k % 256]] for k in range(392)], *[[AT, k, 0] for k in range(1, 9)])
        self.assertEqual(got[392:], [[(384 + k) % 256] for k in range(8)])

    def test_whole_numbers_only(self):
        for number in answers(flat(EVERY_CALL)):
            self.assertIs(type(number), int)
        self.assertIs(type(answers([13])), list)


class Refused(unittest.TestCase):
    def test_one_number_alone_and_nothing_changes(self):
        before = eight_curves() + [[CURVE, k, [0, k, 255, 10 * k]] for k in range(1, 9)]
        state = ask(*before, *state_calls())[len(before):]
        for call in REFUSED:
            got = ask(*before, call, *state_calls())
            self.assertEqual(len(got[len(before)]), 1, call[:6])
            self.assertIn(got[len(before)][0], (-1, -3, -4, -9), call[:6])
            self.assertEqual(got[len(before) + 1:], state, call[:6])

    def test_answers_that_only_tell_change_nothing(self):
        before = eight_curves()
        state = ask(*before, *state_calls())[8:]
        for call in (
            [TABLE, 1], [AT, 1, 0], [HOLES, 1], [BLOCKS, [0, 0, 1]], [ERROR, 1, [0, 0, 1]], [SAME, 1, 2], [BELOW, 1, 2],
            [CURVES], [SHEET, TEXT],
        ):
            self.assertEqual(ask(*before, call, *state_calls())[9:], state, call)


class NothingKept(unittest.TestCase):
    def test_what_is_handed_in_stays(self):
        for calls in (EVERY_CALL, EVERY_CALL + REFUSED):
            numbers = flat(calls)
            copy = list(numbers)
            answers(numbers)
            self.assertEqual(numbers, copy)

    def test_twice_the_same(self):
        numbers = flat(EVERY_CALL + REFUSED)
        first = answers(numbers)
        self.assertEqual(answers([13]), [1, 0])
        self.assertEqual(answers(numbers), first)

    def test_an_answer_changed_changes_nothing(self):
        numbers = flat(EVERY_CALL)
        first = answers(numbers)
        copy = list(first)
        first.clear()
        self.assertEqual(answers(numbers), copy)


if __name__ == "__main__":
    unittest.main()
