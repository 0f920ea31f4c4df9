"""The calls lights, trim, fade, cut, undo, what a change is, and promise 4."""

import unittest

from tests.helper import (
    COUNTS, CURVE, CURVES, CUT, FADE, FAR, FRAME, LIGHTS, LOST, PRINT, SCENE, SHEET, SHOWN, STRAIGHT, TRIM, UNDO, ask,
    codes, last, line, load, many, numbers_from, shown_after, told,
)

TWO = load((5, 10, (25, 20, 30), 2, 3), (9, 4, (0, 50, 25)))
FIRST = line(5, 10, (25, 20, 30), 2, 3)
SECOND = line(9, 4, (0, 50, 25))


class Lights(unittest.TestCase):
    def test_of_one_scene(self):
        self.assertEqual(last(TWO, [LIGHTS, 0, 1, 2, 3]), [0])
        self.assertEqual(shown_after(TWO, [LIGHTS, 0, 1, 2, 3]), line(5, 10, (1, 2, 3), 2, 3) + SECOND)
        self.assertEqual(shown_after(TWO, [LIGHTS, 1, 50, 0, 49]), FIRST + line(9, 4, (50, 0, 49)))
        self.assertEqual(last(TWO, [LIGHTS, 1, 7, 8, 9], [FRAME, 10]), [9, 0, 7, 8, 9])

    def test_the_ends_of_the_ranges(self):
        for lights, answer in (
            ((0, 0, 0), 0), ((50, 50, 50), 0), ((-1, 0, 0), -1), ((0, -1, 0), -1), ((0, 0, -1), -1),
            ((51, 0, 0), -1), ((0, 51, 0), -1), ((0, 0, 51), -1),
            ((FAR, 0, 0), -1), ((0, -FAR, 0), -1), ((0, 0, FAR), -1),
        ):
            self.assertEqual(last(TWO, [LIGHTS, 0, *lights]), [answer], lights)

    def test_scenes(self):
        for place, answer in ((0, 0), (1, 0), (2, -4), (19, -4), (20, -4), (21, -1), (-1, -1), (FAR, -1), (-FAR, -1)):
            self.assertEqual(last(TWO, [LIGHTS, place, 1, 1, 1]), [answer], place)
        self.assertEqual(last([LIGHTS, 0, 1, 1, 1]), [-4])

    def test_lights_are_asked_ahead_of_the_scene(self):
        for place in (2, 20):
            for lights in ((51, 0, 0), (0, -1, 0), (0, 0, 51)):
                self.assertEqual(last(TWO, [LIGHTS, place, *lights]), [-1], (place, lights))


class Trim(unittest.TestCase):
    def test_one_colour(self):
        for colour, one, other in (
            (0, (28, 20, 30), (3, 50, 25)), (1, (25, 23, 30), (0, 50, 25)), (2, (25, 20, 33), (0, 50, 28)),
        ):
            text = line(5, 10, one, 2, 3) + line(9, 4, other)
            self.assertEqual(shown_after(TWO, [TRIM, colour, 3]), text, colour)

    def test_all_colours(self):
        self.assertEqual(shown_after(TWO, [TRIM, 3, -4]), line(5, 10, (21, 16, 26), 2, 3) + line(9, 4, (0, 46, 21)))

    def test_held_at_0_and_50(self):
        for by, lights in (
            (50, (50, 50, 50)), (-50, (0, 0, 0)), (49, (49, 50, 50)), (-49, (0, 0, 1)), (1, (1, 26, 50)),
            (-1, (0, 24, 49)),
        ):
            self.assertEqual(shown_after(load((1, 1, (0, 25, 50))), [TRIM, 3, by]), line(1, 1, lights), by)

    def test_how_many_scenes_that_changes(self):
        scenes = load((1, 1, (0, 0, 0)), (2, 1, (50, 50, 50)), (3, 1, (25, 50, 0)), (4, 1, (1, 2, 3)))
        for colour, by, answer in (
            (0, 0, 0), (3, 0, 0), (0, 1, 3), (0, -1, 3), (1, 1, 2), (1, -1, 3), (2, 1, 3), (2, -1, 2),
            (3, 1, 3), (3, -1, 3), (3, 50, 3), (3, -50, 3), (0, 50, 3), (1, -50, 3),
        ):
            self.assertEqual(last(scenes, [TRIM, colour, by]), [answer], (colour, by))
        self.assertEqual(last([SHEET, codes(many(20))], [TRIM, 1, 1]), [20])
        self.assertEqual(last([SHEET, codes(many(20))], [TRIM, 3, -1]), [0])

    def test_without_scenes(self):
        self.assertEqual(ask([TRIM, 3, 5], [COUNTS], [UNDO], [COUNTS]), [[0], [0, 0, 0, 1], [0], [0, 0, 0, 0]])

    def test_fades_frames_numbers_stay(self):
        got = ask(TWO, [TRIM, 3, 50], [SCENE, 0], [SCENE, 1])
        self.assertEqual(got[2:], [[5, 10, 50, 50, 50, 2, 3], [9, 4, 50, 50, 50, 0, 0]])

    def test_refusals(self):
        for colour, by, answer in (
            (0, 0, 0), (3, 0, 0), (-1, 0, -1), (4, 0, -1), (FAR, 0, -1), (-FAR, 0, -1),
            (3, 50, 2), (3, -50, 2), (3, 51, -1), (3, -51, -1), (0, FAR, -1), (0, -FAR, -1),
        ):
            self.assertEqual(last(TWO, [TRIM, colour, by]), [answer], (colour, by))
        self.assertEqual(ask([TRIM, 4, 0], [TRIM, 0, 51], [COUNTS]), [[-1], [-1], [0, 0, 0, 0]])


class Fade(unittest.TestCase):
    def test_of_one_scene(self):
        self.assertEqual(last(TWO, [FADE, 0, 4, 1]), [0])
        self.assertEqual(shown_after(TWO, [FADE, 0, 4, 1]), line(5, 10, (25, 20, 30), 4, 1) + SECOND)
        self.assertEqual(shown_after(TWO, [FADE, 1, 0, 4]), FIRST + line(9, 4, (0, 50, 25), 0, 4))
        self.assertEqual(shown_after(TWO, [FADE, 0, 0, 0]), line(5, 10, (25, 20, 30)) + SECOND)

    def test_together_no_more_than_its_frames(self):
        for fade_in, fade_out, answer in (
            (10, 0, 0), (0, 10, 0), (5, 5, 0), (11, 0, -3), (0, 11, -3), (5, 6, -3), (6, 5, -3), (1, 10, -3),
            (5000, 0, -3), (0, 5000, -3), (5000, 5000, -3),
        ):
            self.assertEqual(last(TWO, [FADE, 0, fade_in, fade_out]), [answer], (fade_in, fade_out))
        longest = load((1, 5000, (1, 1, 1)))
        for fade_in, fade_out, answer in ((5000, 0, 0), (0, 5000, 0), (2500, 2500, 0), (1, 5000, -3), (5000, 1, -3)):
            self.assertEqual(last(longest, [FADE, 0, fade_in, fade_out]), [answer], (fade_in, fade_out))

    def test_the_ends_of_the_ranges(self):
        for fade in (-1, 5001, FAR, -FAR):
            self.assertEqual(last(TWO, [FADE, 0, fade, 0]), [-1], fade)
            self.assertEqual(last(TWO, [FADE, 0, 0, fade]), [-1], fade)
        for place, answer in ((0, 0), (1, 0), (2, -4), (20, -4), (21, -1), (-1, -1), (FAR, -1), (-FAR, -1)):
            self.assertEqual(last(TWO, [FADE, place, 1, 1]), [answer], place)
        self.assertEqual(last([FADE, 0, 0, 0]), [-4])

    def test_order(self):
        for place, fade_in, fade_out, answer in (
            (2, 5001, 0, -1), (2, 0, -1, -1), (21, 11, 0, -1), (2, 5000, 5000, -4), (20, 11, 0, -4), (0, 5001, 11, -1),
        ):
            self.assertEqual(last(TWO, [FADE, place, fade_in, fade_out]), [answer], (place, fade_in, fade_out))


class Cut(unittest.TestCase):
    def test_one_scene_becomes_two(self):
        self.assertEqual(last(TWO, [CUT, 0, 4, 7]), [0])
        first = line(5, 4, (25, 20, 30), 2)
        second = line(7, 6, (25, 20, 30), 0, 3)
        self.assertEqual(shown_after(TWO, [CUT, 0, 4, 7]), first + second + SECOND)
        parts = line(9, 1, (0, 50, 25)) + line(999, 3, (0, 50, 25))
        self.assertEqual(shown_after(TWO, [CUT, 1, 1, 999]), FIRST + parts)
        got = ask(TWO, [CUT, 0, 4, 7], [SCENE, 0], [SCENE, 1], [SCENE, 2], [SCENE, 3])
        self.assertEqual(
            got[2:], [[5, 4, 25, 20, 30, 2, 0], [7, 6, 25, 20, 30, 0, 3], [9, 4, 0, 50, 25, 0, 0], [-4]]
        )

    def test_where_it_can_be_cut(self):
        for n, answer in (
            (1, -3), (2, 0), (3, 0), (6, 0), (7, 0), (8, -3), (9, -3), (10, -3), (11, -3), (5000, -3), (0, -1),
            (-1, -1),
            (5001, -1), (FAR, -1), (-FAR, -1),
        ):
            self.assertEqual(last(TWO, [CUT, 0, n, 7]), [answer], n)

    def test_a_scene_without_fades(self):
        for n, answer in ((1, 0), (3, 0), (4, -3), (5, -3)):
            self.assertEqual(last(TWO, [CUT, 1, n, 10]), [answer], n)
        self.assertEqual(last(load((1, 1, (0, 0, 0))), [CUT, 0, 1, 2]), [-3])
        self.assertEqual(last(load((1, 5000, (0, 0, 0))), [CUT, 0, 4999, 2]), [0])
        self.assertEqual(last(load((1, 5000, (0, 0, 0))), [CUT, 0, 5000, 2]), [-3])

    def test_a_scene_that_fades_over_all_its_frames(self):
        for fade_in, fade_out, n, answer in (
            (4, 6, 4, 0), (4, 6, 3, -3), (4, 6, 5, -3), (10, 0, 9, -3), (10, 0, 5, -3), (0, 10, 1, -3), (9, 1, 9, 0),
            (1, 9, 1, 0), (9, 0, 9, 0), (0, 9, 1, 0),
        ):
            scene = load((1, 10, (0, 0, 0), fade_in, fade_out))
            self.assertEqual(last(scene, [CUT, 0, n, 2]), [answer], (fade_in, fade_out, n))

    def test_its_number(self):
        for number, answer in (
            (5, -2), (4, -2), (1, -2), (6, 0), (8, 0), (9, -2), (10, -2), (999, -2), (0, -1), (-1, -1), (1000, -1),
            (FAR, -1), (-FAR, -1),
        ):
            self.assertEqual(last(TWO, [CUT, 0, 4, number]), [answer], number)
        for number, answer in ((9, -2), (8, -2), (5, -2), (10, 0), (999, 0), (1000, -1)):
            self.assertEqual(last(TWO, [CUT, 1, 2, number]), [answer], number)
        close = load((5, 2, (0, 0, 0)), (6, 2, (0, 0, 0)))
        for number in (4, 5, 6, 7):
            self.assertEqual(last(close, [CUT, 0, 1, number]), [-2], number)
        self.assertEqual(last(load((999, 2, (0, 0, 0))), [CUT, 0, 1, 999]), [-2])

    def test_scenes(self):
        for place, answer in ((1, 0), (2, -4), (19, -4), (20, -4), (21, -1), (-1, -1), (FAR, -1), (-FAR, -1)):
            self.assertEqual(last(TWO, [CUT, place, 2, 10]), [answer], place)
        self.assertEqual(last([CUT, 0, 1, 1]), [-4])

    def test_twenty_scenes(self):
        nineteen = [(2 * k, 5, (k, k, k)) for k in range(1, 20)]
        got = ask(load(*nineteen), [CUT, 18, 2, 900], [CUT, 18, 1, 899], [CUT, 0, 1, 3], [COUNTS])
        self.assertEqual(got[1:], [[0], [-9], [-9], [0, 20, 95, 2]])
        twenty = load(*nineteen, (40, 5, (0, 0, 0)))
        for place in (0, 7, 19):
            self.assertEqual(last(twenty, [CUT, place, 1, 2 * place + 3]), [-9], place)

    def test_order(self):
        twenty = load(*[(2 * k, 5, (k, k, k), 2) for k in range(1, 21)])
        for place, n, number, answer in (
            (20, 0, 3, -1), (20, 5001, 3, -1), (20, 1, 0, -1), (20, 1, 1000, -1), (21, 1, 1, -1), (20, 5000, 1, -4),
            (0, 0, 1, -1), (0, 1, 1000, -1), (0, 1, 1, -3), (0, 5, 1, -3), (0, 3, 2, -2), (0, 3, 4, -2), (0, 3, 3, -9),
            (0, 1, 3, -3),
        ):
            self.assertEqual(last(twenty, [CUT, place, n, number]), [answer], (place, n, number))

    def test_cut_again_and_again(self):
        got = ask(load((1, 20, (1, 2, 3), 1, 1)), *[[CUT, k, 1, k + 2] for k in range(19)], [SHOWN], [CUT, 0, 1, 2])
        self.assertEqual(got[1:20], [[0]] * 19)
        between = "".join(line(k, 1, (1, 2, 3)) for k in range(2, 20))
        self.assertEqual(told(got[20]), line(1, 1, (1, 2, 3), 1) + between + line(20, 1, (1, 2, 3), 0, 1))
        self.assertEqual(got[21], [-3])


def all_prints(frames):
    """Each frame by each colour: the places at and round the ends of the values, and a few between."""
    return [
        [PRINT, 1, n, colour, v] for n in range(frames) for colour in range(3) for v in (0, 49, 100, 206, 255)
    ]


class Promise4(unittest.TestCase):
    def same_prints(self, before, frames, cut):
        asked = all_prints(frames)
        curve = [CURVE, 1, [3, 7, 120, 100, 121, 160, 250, 255]]
        whole = ask(curve, before, *asked)[2:]
        parted = ask(curve, before, cut, *asked)
        self.assertEqual(parted[2], [0], cut)
        self.assertEqual(parted[3:], whole, (before, cut))
        self.assertNotIn([-4], whole)

    def test_each_fade_and_each_cut(self):
        for frames in range(2, 8):
            for fade_in in range(frames + 1):
                for fade_out in range(frames - fade_in + 1):
                    for n in range(1, frames):
                        if fade_in <= n <= frames - fade_out:
                            scene = load((3, frames, (10, 25, 50), fade_in, fade_out))
                            self.same_prints(scene, frames, [CUT, 0, n, 4])

    def test_among_other_scenes(self):
        before = load((1, 3, (0, 9, 20), 1, 1), (5, 9, (30, 25, 1), 3, 4), (9, 4, (50, 0, 50), 0, 4))
        for cut in ([CUT, 0, 1, 2], [CUT, 0, 2, 4], [CUT, 1, 3, 6], [CUT, 1, 5, 8]):
            self.same_prints(before, 16, cut)

    def test_lost_values_stay_too(self):
        before = load((1, 3, (0, 9, 20), 1, 1), (5, 9, (30, 25, 1), 3, 4))
        asked = [[LOST, n, colour, [0, 30, 60, 200, 255]] for n in range(13) for colour in range(3)]
        self.assertEqual(ask(before, [CUT, 1, 4, 6], *asked)[2:], ask(before, *asked)[1:])


class WhatAChangeIs(unittest.TestCase):
    def test_also_where_nothing_is_otherwise(self):
        for call in (
            TWO, [LIGHTS, 0, 25, 20, 30], [TRIM, 3, 0], [FADE, 0, 2, 3], [TRIM, 1, 0],
        ):
            got = ask(TWO, call, [COUNTS], [SHOWN], [UNDO], [COUNTS], [SHOWN])
            self.assertEqual(got[2], [0, 2, 14, 2], call)
            self.assertEqual(told(got[3]), FIRST + SECOND)
            self.assertEqual(got[4], [1])
            self.assertEqual(got[5], [0, 2, 14, 1])
            self.assertEqual(told(got[6]), FIRST + SECOND)

    def test_an_empty_sheet_in_the_place_of_an_empty_sheet(self):
        self.assertEqual(ask([SHEET, []], [SHEET, codes("#")], [COUNTS])[2], [0, 0, 0, 2])

    def test_wrong_texts_and_refused_calls_are_none(self):
        for call in (
            [SHEET, codes("x")], [SHEET, codes(many(21))], [SHEET, [256]], [LIGHTS, 2, 1, 1, 1], [LIGHTS, 0, 51, 1, 1],
            [TRIM, 4, 1], [TRIM, 0, 51], [FADE, 0, 6, 5], [FADE, 2, 0, 0], [CUT, 0, 1, 7], [CUT, 0, 4, 9],
            [CUT, 2, 1, 99],
        ):
            got = ask(TWO, call, [COUNTS], [SHOWN], [UNDO], [UNDO])
            self.assertEqual(got[2], [0, 2, 14, 1], call)
            self.assertEqual(told(got[3]), FIRST + SECOND)
            self.assertEqual(got[4:], [[0], [-6]])

    def test_calls_that_only_tell_and_calls_on_curves_are_none(self):
        got = ask(
            [CURVE, 1, STRAIGHT], TWO, [SHOWN], [SCENE, 0], [FRAME, 0], [PRINT, 1, 0, 0, 0], [LOST, 0, 0, []], [CURVES],
            [COUNTS],
        )
        self.assertEqual(got[-1], [1, 2, 14, 1])


class Undo(unittest.TestCase):
    def test_nothing_to_take_back(self):
        self.assertEqual(ask([UNDO], [COUNTS]), [[-6], [0, 0, 0, 0]])
        self.assertEqual(ask(TWO, [UNDO], [UNDO], [COUNTS]), [[0, 2], [0], [-6], [0, 0, 0, 0]])

    def test_each_kind_call_by_call(self):
        changes = [
            TWO, [LIGHTS, 0, 1, 2, 3], [TRIM, 3, -25], [FADE, 0, 5, 5], [CUT, 0, 5, 6], [FADE, 1, 0, 2],
            [LIGHTS, 1, 9, 9, 9],
            [CUT, 2, 1, 10], load((1, 1, (0, 0, 0))), [TRIM, 0, 4], [SHEET, []],
        ]
        shown = ask(*[call for change in changes for call in (change, [SHOWN])])[1::2]
        got = ask(*changes, *[call for _ in changes for call in ([UNDO], [SHOWN])])[len(changes):]
        self.assertEqual(got[0::2], [[left] for left in range(len(changes) - 1, -1, -1)])
        self.assertEqual(got[1::2], shown[-2::-1] + [[0]])

    def test_twenty_and_no_more(self):
        for done in (19, 20, 21, 30):
            changes = [load((k, 1, (k, k, k))) for k in range(1, done + 1)]
            back = min(done, 20)
            got = ask(*changes, *[[UNDO], [SHOWN]] * back, [UNDO], [SHOWN])[done:]
            self.assertEqual(got[0:2 * back:2], [[left] for left in range(back - 1, -1, -1)], done)
            left = ["" if k == 0 else line(k, 1, (k, k, k)) for k in range(done - 1, done - back - 1, -1)]
            self.assertEqual([told(answer) for answer in got[1:2 * back:2]], left, done)
            self.assertEqual(got[2 * back], [-6])
            self.assertEqual(told(got[2 * back + 1]), left[-1], done)

    def test_changes_behind_an_undo(self):
        got = ask(TWO, [TRIM, 0, 1], [UNDO], [TRIM, 1, 1], [COUNTS], [UNDO], [SHOWN], [UNDO], [UNDO])
        self.assertEqual(got[4], [0, 2, 14, 2])
        self.assertEqual(got[5], [1])
        self.assertEqual(told(got[6]), FIRST + SECOND)
        self.assertEqual(got[7:], [[0], [-6]])

    def test_twenty_again_behind_an_undo(self):
        got = ask(*[[TRIM, 0, 0]] * 25, [UNDO], [UNDO], [COUNTS], *[[TRIM, 0, 0]] * 3, [COUNTS])
        self.assertEqual(got[25:28], [[19], [18], [0, 0, 0, 18]])
        self.assertEqual(got[-1], [0, 0, 0, 20])

    def test_curves_stay(self):
        self.assertEqual(ask(TWO, [CURVE, 1, STRAIGHT], [UNDO], [CURVES], [COUNTS])[3:], [[1, 1], [1, 0, 0, 0]])

    def test_a_sheet_brought_back_is_changed_again(self):
        got = ask(
            TWO, [CUT, 0, 4, 7], [UNDO], [LIGHTS, 0, 1, 1, 1], [UNDO], [SHOWN], [FADE, 0, 0, 0], [SHOWN], [UNDO],
            [SHOWN],
        )
        self.assertEqual(told(got[5]), FIRST + SECOND)
        self.assertEqual(told(got[7]), line(5, 10, (25, 20, 30)) + SECOND)
        self.assertEqual(told(got[9]), FIRST + SECOND)


class Model:
    """The sheet once more, as plain lists that are copied whole at each change."""

    def __init__(self):
        self.scenes = []
        self.before = []

    def change(self, scenes):
        self.before = (self.before + [self.scenes])[-20:]
        self.scenes = scenes

    def answer(self, call):
        if call[0] == UNDO:
            if not self.before:
                return [-6]
            self.scenes = self.before.pop()
            return [len(self.before)]
        scenes = [list(scene) for scene in self.scenes]
        if call[0] == TRIM:
            for scene in scenes:
                for colour in range(3):
                    if call[1] in (colour, 3):
                        scene[2 + colour] = max(0, min(50, scene[2 + colour] + call[2]))
            self.change(scenes)
            return [sum(old != new for old, new in zip(self.before[-1], scenes))]
        place = call[1]
        if place >= len(scenes):
            return [-4]
        refused = self.of_one(call, scenes, place)
        if not refused:
            self.change(scenes)
        return [refused]

    def of_one(self, call, scenes, place):
        scene = scenes[place]
        number, frames, fade_in, fade_out = scene[0], scene[1], scene[5], scene[6]
        if call[0] == LIGHTS:
            scene[2:5] = call[2:5]
        elif call[0] == FADE:
            if call[2] + call[3] > frames:
                return -3
            scene[5:] = call[2:4]
        else:
            n, other = call[2], call[3]
            if n >= frames or n < fade_in or frames - n < fade_out:
                return -3
            numbers = [one[0] for one in scenes]
            if sorted(set(numbers[:place + 1] + [other] + numbers[place + 1:])) != (
                numbers[:place + 1] + [other] + numbers[place + 1:]
            ):
                return -2
            if len(scenes) == 20:
                return -9
            scenes[place:place + 1] = [
                [number, n] + scene[2:5] + [fade_in, 0], [other, frames - n] + scene[2:5] + [0, fade_out],
            ]
        return 0

    def told(self):
        return "".join(line(scene[0], scene[1], scene[2:5], scene[5], scene[6]) for scene in self.scenes)


class AgainstAModel(unittest.TestCase):
    def next_call(self, below, model):
        kind = (LIGHTS, TRIM, FADE, CUT, CUT, CUT, UNDO)[below(7)]
        place = below(len(model.scenes) + 1)
        if kind == UNDO:
            return [UNDO]
        if kind == TRIM:
            return [TRIM, below(4), below(101) - 50]
        if kind == LIGHTS:
            return [LIGHTS, place, below(51), below(51), below(51)]
        if kind == FADE:
            return [FADE, place, below(20), below(20)]
        return [CUT, place, 1 + below(30), 1 + below(999)]

    def test_many_changes(self):
        kinds = set()
        for seed in range(60):
            below = numbers_from(seed)
            model = Model()
            first = [(100 + k * 300, 5 + below(200), (below(51), 25, below(51)), below(3), below(3)) for k in range(3)]
            model.change([[*scene[:2], *scene[2], *scene[3:]] for scene in first])
            calls = [load(*first)]
            expected = [[0, 3]]
            for _ in range(120):
                call = self.next_call(below, model)
                calls.append(call)
                expected.append(model.answer(call))
                kinds.add((call[0], min(expected[-1][0], 0)))
            calls += [[SHOWN], [COUNTS]]
            got = ask(*calls)
            self.assertEqual(got[:-2], expected, seed)
            self.assertEqual(told(got[-2]), model.told(), seed)
            frames = sum(scene[1] for scene in model.scenes)
            self.assertEqual(got[-1], [0, len(model.scenes), frames, len(model.before)])
        self.assertTrue({(CUT, 0), (CUT, -2), (CUT, -3), (CUT, -4), (FADE, -3), (UNDO, 0), (UNDO, -6)} <= kinds)


if __name__ == "__main__":
    unittest.main()
