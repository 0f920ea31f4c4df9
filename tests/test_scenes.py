"""The calls shown, scene, frame, changes, counts."""

import unittest

from tests.helper import (
    CHANGES, COUNTS, CURVE, CUT, DROP, FADE, FAR, FRAME, LIGHTS, SCENE, SHEET, SHOWN, STRAIGHT, TRIM, UNDO, ask, codes,
    eight_curves, last, line, load, many, shown_after,
)

# Frames 0 to 9, 10, 11 to 15.
THREE = load((3, 10, (25, 20, 30), 2, 3), (7, 1, (0, 50, 25)), (40, 5, (1, 2, 3), 0, 5))
FULLEST = load(*[(980 + k, 5000, (50, 50, 50), 2500, 2500) for k in range(20)])


class Shown(unittest.TestCase):
    def test_no_scenes(self):
        self.assertEqual(ask([SHOWN]), [[0]])
        self.assertEqual(last([SHEET, codes("# nothing\n\n")], [SHOWN]), [0])

    def test_byte_by_byte(self):
        text = b"scene 1 frames 10 lights 0 25 50\n"
        self.assertEqual(last([SHEET, list(text)], [SHOWN]), [33] + list(text))

    def test_fades_of_0_are_left_out(self):
        for fade_in, fade_out, tail in ((0, 0, ""), (4, 0, " in 4"), (0, 6, " out 6"), (4, 6, " in 4 out 6")):
            text = f"scene 1 frames 10 lights 25 25 25 in {fade_in} out {fade_out}"
            self.assertEqual(shown_after([SHEET, codes(text)]), "scene 1 frames 10 lights 25 25 25" + tail + "\n")

    def test_remarks_and_blanks_are_not_shown(self):
        text = "# first\n\n  scene   1  frames 10 lights 25 25 25   out 1  \n #\nscene 20 frames 2 lights 1 2 3 in 0"
        shown = "scene 1 frames 10 lights 25 25 25 out 1\nscene 20 frames 2 lights 1 2 3\n"
        self.assertEqual(shown_after([SHEET, codes(text)]), shown)

    def test_in_order(self):
        self.assertEqual(
            shown_after(THREE),
            "scene 3 frames 10 lights 25 20 30 in 2 out 3\n"
            "scene 7 frames 1 lights 0 50 25\n"
            "scene 40 frames 5 lights 1 2 3 out 5\n",
        )

    def test_handed_in_it_is_the_same_sheet_again(self):
        for call in (THREE, FULLEST, load(), load((1, 1, (0, 0, 0)), (999, 5000, (50, 9, 10), 5000))):
            got = ask(call, [SHOWN], *[[SCENE, place] for place in range(20)])
            again = ask([SHEET, got[1][1:]], [SHOWN], *[[SCENE, place] for place in range(20)])
            self.assertEqual(again, got)

    def test_twenty_scenes(self):
        self.assertEqual(shown_after([SHEET, codes(many(20))]), many(20))
        self.assertEqual(last(FULLEST, [SHOWN])[0], 20 * 55)

    def test_after_changes(self):
        for change, text in (
            ([LIGHTS, 0, 9, 10, 11], line(5, 8, (9, 10, 11), 1, 2)),
            ([TRIM, 3, 1], line(5, 8, (26, 26, 26), 1, 2)),
            ([FADE, 0, 0, 0], line(5, 8, (25, 25, 25))),
            ([FADE, 0, 8, 0], line(5, 8, (25, 25, 25), 8)),
            ([CUT, 0, 3, 9], line(5, 3, (25, 25, 25), 1) + line(9, 5, (25, 25, 25), 0, 2)),
        ):
            self.assertEqual(shown_after(load((5, 8, (25, 25, 25), 1, 2)), change), text)


class Scene(unittest.TestCase):
    def test_each(self):
        got = ask(THREE, [SCENE, 0], [SCENE, 1], [SCENE, 2])[1:]
        self.assertEqual(got, [[3, 10, 25, 20, 30, 2, 3], [7, 1, 0, 50, 25, 0, 0], [40, 5, 1, 2, 3, 0, 5]])

    def test_refusals(self):
        for place, answer in ((3, -4), (19, -4), (20, -4), (21, -1), (-1, -1), (FAR, -1), (-FAR, -1)):
            self.assertEqual(last(THREE, [SCENE, place]), [answer], place)
        for place, answer in ((0, -4), (20, -4), (21, -1), (-1, -1)):
            self.assertEqual(ask([SCENE, place]), [[answer]], place)

    def test_the_last_of_twenty(self):
        for place, answer in ((19, [20, 1, 0, 0, 0, 0, 0]), (20, [-4]), (21, [-1])):
            self.assertEqual(last([SHEET, codes(many(20))], [SCENE, place]), answer, place)


class Frame(unittest.TestCase):
    def test_the_first_and_last_of_each_scene(self):
        for n, answer in (
            (0, [3, 0, 25, 20, 30]), (1, [3, 1, 25, 20, 30]), (9, [3, 9, 25, 20, 30]),
            (10, [7, 0, 0, 50, 25]), (11, [40, 0, 1, 2, 3]), (15, [40, 4, 1, 2, 3]), (16, [-4]), (200000, [-4]),
        ):
            self.assertEqual(last(THREE, [FRAME, n]), answer, n)

    def test_refusals(self):
        for n, answer in ((0, -4), (200000, -4), (200001, -1), (-1, -1), (FAR, -1), (-FAR, -1)):
            self.assertEqual(ask([FRAME, n]), [[answer]], n)
        for n in (-1, -16, 200001, FAR, -FAR):
            self.assertEqual(last(THREE, [FRAME, n]), [-1], n)

    def test_as_many_frames_as_there_can_be(self):
        for n, answer in (
            (4999, [980, 4999]), (5000, [981, 0]), (94999, [998, 4999]), (95000, [999, 0]), (99999, [999, 4999]),
        ):
            self.assertEqual(last(FULLEST, [FRAME, n]), answer + [50, 50, 50], n)
        self.assertEqual(last(FULLEST, [FRAME, 100000]), [-4])

    def test_every_frame(self):
        scenes = [(2 * k + 1, 1 + k * 3 % 7, (k, k + 1, k + 2)) for k in range(20)]
        expected = [
            [number, j] + list(lights) for number, frames, lights in scenes for j in range(frames)
        ]
        got = ask(load(*scenes), *[[FRAME, n] for n in range(len(expected) + 1)])[1:]
        self.assertEqual(got, expected + [[-4]])


class Changes(unittest.TestCase):
    def test_no_scenes(self):
        self.assertEqual(ask([CHANGES]), [[0]])

    def test_every_scene_other_than_the_one_before(self):
        self.assertEqual(last(THREE, [CHANGES]), [3, 0, 25, 20, 30, 10, 0, 50, 25, 11, 1, 2, 3])

    def test_the_first_scene_whatever_its_lights(self):
        for lights in ((0, 0, 0), (25, 25, 25), (50, 50, 50)):
            self.assertEqual(last(load((1, 9, lights)), [CHANGES]), [1, 0] + list(lights))

    def test_the_same_lights_one_behind_another(self):
        one, other = (10, 20, 30), (10, 20, 31)
        for lights, answer in (
            ((one, one, one), [1, 0, *one]),
            ((one, one, other), [2, 0, *one, 5, *other]),
            ((one, other, other), [2, 0, *one, 2, *other]),
            ((one, other, one), [3, 0, *one, 2, *other, 5, *one]),
        ):
            scenes = [(1, 2, lights[0]), (2, 3, lights[1]), (3, 4, lights[2])]
            self.assertEqual(last(load(*scenes), [CHANGES]), answer)

    def test_each_colour_by_itself(self):
        for other in ((11, 20, 30), (10, 21, 30), (10, 20, 31), (20, 10, 30)):
            got = last(load((1, 7, (10, 20, 30)), (2, 1, other)), [CHANGES])
            self.assertEqual(got, [2, 0, 10, 20, 30, 7, *other])

    def test_other_fades_and_frames_are_no_change_of_lights(self):
        self.assertEqual(last(load((1, 7, (1, 2, 3), 7), (2, 9, (1, 2, 3), 0, 9)), [CHANGES]), [1, 0, 1, 2, 3])

    def test_behind_a_cut_and_lights(self):
        before = load((1, 10, (1, 2, 3)), (9, 5, (4, 5, 6)))
        same = [2, 0, 1, 2, 3, 10, 4, 5, 6]
        got = ask(before, [CHANGES], [CUT, 0, 4, 2], [CHANGES], [LIGHTS, 1, 7, 7, 7], [CHANGES], [UNDO], [CHANGES])
        self.assertEqual(got[1], same)
        self.assertEqual(got[3], same)
        self.assertEqual(got[5], [3, 0, 1, 2, 3, 4, 7, 7, 7, 10, 4, 5, 6])
        self.assertEqual(got[7], same)

    def test_behind_a_trim_that_makes_lights_the_same(self):
        before = load((1, 10, (49, 2, 3)), (9, 5, (50, 2, 3)))
        self.assertEqual(last(before, [TRIM, 0, 1], [CHANGES]), [1, 0, 50, 2, 3])


class Counts(unittest.TestCase):
    def test_a_new_house(self):
        self.assertEqual(ask([COUNTS]), [[0, 0, 0, 0]])

    def test_curves(self):
        self.assertEqual(last(*eight_curves(), [CURVE, 9, STRAIGHT], [COUNTS]), [8, 0, 0, 0])
        self.assertEqual(last(*eight_curves(), [CURVE, 1, [0, 0]], [DROP, 2], [COUNTS]), [7, 0, 0, 0])

    def test_scenes_and_frames(self):
        self.assertEqual(last(THREE, [COUNTS]), [0, 3, 16, 1])
        self.assertEqual(last(FULLEST, [COUNTS]), [0, 20, 100000, 1])
        self.assertEqual(last(THREE, [CUT, 0, 5, 4], [COUNTS]), [0, 4, 16, 2])
        self.assertEqual(last(THREE, [CUT, 0, 5, 4], [UNDO], [COUNTS]), [0, 3, 16, 1])
        self.assertEqual(last(THREE, [SHEET, []], [COUNTS]), [0, 0, 0, 2])

    def test_changes_of_each_kind(self):
        got = ask(
            THREE, [COUNTS], [LIGHTS, 0, 1, 1, 1], [COUNTS], [TRIM, 0, 1], [COUNTS], [FADE, 0, 1, 1], [COUNTS],
            [CUT, 0, 5, 4], [COUNTS], [SHEET, []], [COUNTS],
        )
        self.assertEqual(
            got[1::2],
            [[0, 3, 16, 1], [0, 3, 16, 2], [0, 3, 16, 3], [0, 3, 16, 4], [0, 4, 16, 5], [0, 0, 0, 6]],
        )

    def test_no_more_than_twenty_changes(self):
        for done, told in ((1, 1), (19, 19), (20, 20), (21, 20), (45, 20)):
            self.assertEqual(last(*[[TRIM, 0, 0]] * done, [COUNTS]), [0, 0, 0, told], done)


if __name__ == "__main__":
    unittest.main()
