"""What holds of all calls: the form of calls and answers, and that a refused call changes nothing."""

import unittest

from printlights.house import answers
from tests.helper import (
    AT, BELOW, BLOCKS, CHANGES, COMPOSE, COST, COUNTS, CURVE, CURVES, CUT, DROP, ERROR, FADE, FAR, FIT, FRAME, HIGH,
    HOLES, LIGHTS, LOST, LOW, NEAREST, PRINT, SAME, SCENE, SHEET, SHOWN, SMOOTH, STRAIGHT, TABLE, TRIM, UNDO, ask,
    codes,
    eight_curves, flat, load, state_calls,
)

TEXT = list(b"scene 1 frames 10 lights 25 25 25 in 2\n")

EVERY_CALL = [
    [CURVE, 1, [0, 0, 255, 128]], [TABLE, 1], [AT, 1, 255], [COMPOSE, 1, 1, 2], [LOW, 1, 3], [HIGH, 1, 4], [HOLES, 1],
    [FIT, 5, [0, 10, 1, 1, 5, 2]], [BLOCKS, [0, 10, 1, 1, 5, 2]], [ERROR, 5, [0, 10, 1]], [SAME, 1, 2], [BELOW, 2, 1],
    [DROP, 4], [CURVES], [SHEET, TEXT],
    [LIGHTS, 0, 26, 25, 50], [TRIM, 1, -1], [FADE, 0, 0, 1], [CUT, 0, 3, 8], [FADE, 1, 1, 2], [UNDO], [SHOWN],
    [SCENE, 1], [FRAME, 9], [PRINT, 1, 9, 0, 253], [LOST, 9, 2, [206, 205]], [NEAREST, 1, 100, 51],
    [SMOOTH, 1, 1, [100, 50, 100, 255]], [COST, 1, [100, 50, 100, 255], [25, 26]], [CHANGES], [COUNTS],
]

WIDE_ROWS = ([FAR] * 1600, [-FAR] * 1600, [0] * 1600, [1] * 1600, [1] * 1599)

REFUSED = [
    [CURVE, 9, STRAIGHT], [CURVE, 0, STRAIGHT], [CURVE, 1, [5, 5, 5, 6]], [CURVE, 1, [5, 5, 6, 4]], [CURVE, 1, [1]],
    [TABLE, 9], [TABLE, 0], [AT, 9, 0], [AT, 1, 256], [AT, 0, 0],
    [COMPOSE, 1, 2, 9], [COMPOSE, 9, 1, 1], [COMPOSE, 1, 9, 1], [COMPOSE, 1, 1, 0], [COMPOSE, 0, 1, 1],
    [LOW, 1, 9], [LOW, 9, 1], [LOW, 1, 0], [HIGH, 1, 9], [HIGH, 9, 1], [HIGH, 1, 0], [HOLES, 9], [HOLES, 0],
    [FIT, 9, [0, 0, 1]], [FIT, 1, [0, 0, 0]], [FIT, 0, [0, 0, 1]], [FIT, 1, []], [BLOCKS, []],
    [ERROR, 9, [0, 0, 1]], [ERROR, 1, []], [SAME, 1, 9], [SAME, 9, 1], [BELOW, 1, 9], [BELOW, 9, 1],
    [DROP, 9], [DROP, 0], [SHEET, [256]], [SHEET, [32] * 1501],
    [SCENE, 20], [SCENE, 21], [FRAME, 200000], [FRAME, 200001], [PRINT, 1, 200000, 0, 0], [PRINT, 9, 0, 0, 0],
    [PRINT, 1, 0, 3, 0], [PRINT, 0, 0, 0, 0], [LOST, 0, 3, []], [LOST, 200000, 0, []], [LOST, 0, 0, [0] * 61],
    [LIGHTS, 0, 0, 0, 51], [LIGHTS, 20, 0, 0, 0], [LIGHTS, 21, 0, 0, 0], [TRIM, 4, 1], [TRIM, 0, 51], [TRIM, 0, -51],
    [FADE, 0, 5001, 0], [FADE, 20, 0, 0], [FADE, 21, 0, 0], [FADE, 0, 5000, 1],
    [CUT, 0, 0, 3], [CUT, 0, 1, 1000], [CUT, 20, 1, 3], [CUT, 21, 1, 3], [CUT, 0, 5, 3], [CUT, 0, 2, 2], [CUT, 0, 2, 3],
    [NEAREST, 1, 256, 0], [NEAREST, 9, 0, 0], [NEAREST, 0, 0, 0], [SMOOTH, 1, 51, []], [SMOOTH, 1, 5, [1]],
    [SMOOTH, 9, 5, []], [COST, 1, [], [51]], [COST, 1, [], [1]], [COST, 9, [], []], [COST, 1, [1], []],
] + [[call, 1, list(row)] for call in (CURVE, FIT, ERROR) for row in WIDE_ROWS] + [
    [call, list(row)] for call in (BLOCKS, SHEET) for row in WIDE_ROWS
] + [
    [call, 1, 0, list(row)] for call in (LOST, SMOOTH) for row in WIDE_ROWS
] + [
    call for row in WIDE_ROWS for call in ([COST, 1, list(row), []], [COST, 1, [], list(row)], [COST, 1, row, row])
] + [
    [call, far] + [far] * more
    for far in (FAR, -FAR)
    for call, more in (
        (TABLE, 0), (AT, 1), (COMPOSE, 2), (LOW, 1), (HIGH, 1), (HOLES, 0), (SAME, 1), (BELOW, 1), (DROP, 0),
        (SCENE, 0),
        (FRAME, 0), (PRINT, 3), (LIGHTS, 3), (TRIM, 1), (FADE, 2), (CUT, 2), (NEAREST, 2),
    )
]

# Eight curves and twenty scenes, behind as many changes as can be taken back and more.
FULL_HOUSE = eight_curves() + [[CURVE, k, [0, k, 255, 10 * k]] for k in range(1, 9)] + [
    load(*[(2 * k, 4, (k, 2 * k, 50 - k), 1, 1) for k in range(1, 21)]),
] + [[TRIM, k % 4, 2 * k - 20] for k in range(1, 22)]


class Form(unittest.TestCase):
    def test_how_many_numbers_then_these(self):
        self.assertEqual(answers([13]), [1, 0])
        self.assertEqual(answers([0, 7, 2, 0, 5, 2, 7, 0, 13, 2, 8, 0]), [1, 0, 1, 5, 2, 1, 7, 1, -4])
        self.assertEqual(answers([14, 0]), [2, 0, 0])
        self.assertEqual(answers([14, 1, 120]), [3, 1, 1, 1])
        self.assertEqual(answers([8, 0, 8, 3, 1, 2, 3]), [1, -1, 5, 1, 1, 1, 6, 3])
        self.assertEqual(answers([0, 1, 2, 9, 9, 1, 1]), [1, 0, 256] + [9] * 256)

    def test_every_call(self):
        self.assertEqual(sorted([call[0] for call in EVERY_CALL if call[0] != FADE] + [FADE]), list(range(30)))
        got = ask(*EVERY_CALL)
        self.assertEqual(got[1], [x * 128 // 255 for x in range(256)])
        shown = codes("scene 1 frames 3 lights 26 24 50\nscene 8 frames 7 lights 26 24 50 out 1\n")
        rest = got[:1] + got[2:]
        self.assertEqual(rest, [
            [0], [128], [0], [0], [0], [127, 0], [17], [1, 0, 1, 20, 3], [9], [0, 2], [1], [0], [4, 1, 2, 3, 5], [0, 1],
            [0], [1], [0], [0], [0], [5], [len(shown)] + shown,
            [8, 7, 26, 24, 50, 0, 1], [8, 6, 26, 24, 50], [64], [1, 206], [26, 0],
            [204, 25, 26], [204], [1, 0, 26, 24, 50], [4, 2, 10, 5],
        ])

    def test_what_comes_behind_a_refused_call_is_read(self):
        for call in REFUSED:
            got = ask(*eight_curves(), call, [CURVES])
            self.assertEqual(got[9], [8, 1, 2, 3, 4, 5, 6, 7, 8], call[:6])

    def test_four_hundred_calls(self):
        got = ask(*[[CURVE, 1 + k % 8, [0, k % 256]] for k in range(392)], *[[AT, k, 0] for k in range(1, 9)])
        self.assertEqual(got[392:], [[(384 + k) % 256] for k in range(8)])

    def test_whole_numbers_only(self):
        for number in answers(flat(EVERY_CALL)):
            self.assertIs(type(number), int)
        self.assertIs(type(answers([13])), list)


class Refused(unittest.TestCase):
    def test_one_number_alone_and_nothing_changes(self):
        before = FULL_HOUSE
        state = ask(*before, *state_calls())[len(before):]
        self.assertEqual(state[100], [8, 20, 80, 20])
        seen = set()
        for call in REFUSED:
            got = ask(*before, call, *state_calls())
            self.assertEqual(len(got[len(before)]), 1, call[:6])
            self.assertEqual(got[len(before) + 1:], state, call[:6])
            seen.add(got[len(before)][0])
        self.assertEqual(seen, {-1, -2, -3, -4, -9})

    def test_wrong_texts_and_nothing_to_take_back(self):
        state = ask(*FULL_HOUSE, *state_calls())[len(FULL_HOUSE):]
        got = ask(*FULL_HOUSE, [SHEET, codes("scene 1")], *state_calls())[len(FULL_HOUSE):]
        self.assertEqual(got, [[1, 1, 1]] + state)
        state = ask(*eight_curves(), *state_calls())[8:]
        self.assertEqual(ask(*eight_curves(), [UNDO], *state_calls())[8:], [[-6]] + state)

    def test_answers_that_only_tell_change_nothing(self):
        before = FULL_HOUSE
        state = ask(*before, *state_calls())[len(before):]
        for call in (
            [TABLE, 1], [AT, 1, 0], [HOLES, 1], [BLOCKS, [0, 0, 1]], [ERROR, 1, [0, 0, 1]], [SAME, 1, 2], [BELOW, 1, 2],
            [CURVES], [SHOWN], [SCENE, 0], [FRAME, 5], [PRINT, 1, 5, 0, 9], [LOST, 5, 0, [0, 255]], [NEAREST, 1, 5, 6],
            [SMOOTH, 1, 4, [5, 6, 7, 8]], [COST, 1, [5, 6], [9]], [CHANGES], [COUNTS],
        ):
            got = ask(*before, call, *state_calls())[len(before):]
            self.assertGreaterEqual(got[0][0], 0, call)
            self.assertEqual(got[1:], state, call)

    def test_changes_of_the_sheet_leave_curves_and_those_of_curves_leave_the_sheet(self):
        before = FULL_HOUSE
        state = ask(*before, *state_calls())[len(before):]
        for call in ([LIGHTS, 0, 1, 1, 1], [TRIM, 3, 1], [FADE, 0, 0, 0], [SHEET, TEXT], [UNDO]):
            self.assertEqual(ask(*before, call, *state_calls())[len(before) + 1:][:100], state[:100], call)
        for call in ([CURVE, 1, [0, 0]], [COMPOSE, 1, 2, 3], [LOW, 1, 2], [HIGH, 1, 2], [FIT, 1, [0, 0, 1]]):
            self.assertEqual(ask(*before, call, *state_calls())[len(before) + 1:][100:], state[100:], call)


class NothingKept(unittest.TestCase):
    def test_what_is_handed_in_stays(self):
        for calls in (EVERY_CALL, EVERY_CALL + REFUSED):
            numbers = flat(calls)
            copy = list(numbers)
            answers(numbers)
            self.assertEqual(numbers, copy)

    def test_twice_the_same(self):
        numbers = flat(EVERY_CALL + REFUSED)
        first = answers(numbers)
        self.assertEqual(answers([13]), [1, 0])
        self.assertEqual(answers(numbers), first)

    def test_an_answer_changed_changes_nothing(self):
        numbers = flat(EVERY_CALL)
        first = answers(numbers)
        copy = list(first)
        first.clear()
        self.assertEqual(answers(numbers), copy)


if __name__ == "__main__":
    unittest.main()
