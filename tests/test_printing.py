"""The calls print and lost."""

import unittest

from tests.helper import (
    CURVE, FAR, LIGHTS, LOST, PRINT, STRAIGHT, ask, last, load, numbers_from, table_of,
)

LINE = [CURVE, 1, STRAIGHT]
LEVEL = [CURVE, 2, [0, 255]]
MIDDLE = (25, 25, 25)


def by_light(v, light):
    return max(0, min(255, v + 2 * (light - 25)))


def printed(table, scene, colour, v, j):
    """The document's sentence, for frame j of a scene told as the helper's line tells it."""
    number, frames, lights, fade_in, fade_out = scene
    p = table[by_light(v, lights[colour])]
    if j < fade_in:
        return p * (j + 1) // (fade_in + 1)
    if frames - j <= fade_out:
        return p * (frames - j) // (fade_out + 1)
    return p


def prints(scene, *calls):
    """What 255 is printed as at each frame of one scene, by the curve that makes 255 of everything."""
    got = ask(LEVEL, load(scene), *calls, *[[PRINT, 2, n, 0, 255] for n in range(scene[1])])
    return [number for answer in got[2 + len(calls):] for number in answer]


class ByALight(unittest.TestCase):
    def test_worked_out(self):
        for light, v, answer in (
            (25, 0, 0), (25, 100, 100), (25, 255, 255), (26, 100, 102), (24, 100, 98), (50, 100, 150), (0, 100, 50),
            (50, 205, 255), (50, 206, 255), (50, 255, 255), (50, 0, 50), (0, 50, 0), (0, 49, 0), (0, 0, 0),
            (0, 255, 205), (26, 253, 255), (26, 254, 255), (24, 2, 0), (24, 1, 0), (24, 3, 1), (26, 252, 254),
        ):
            self.assertEqual(last(LINE, load((1, 1, (light, 25, 25))), [PRINT, 1, 0, 0, v]), [answer], (light, v))

    def test_each_colour_has_its_light(self):
        got = ask(LINE, load((1, 1, (0, 26, 50))), *[[PRINT, 1, 0, colour, 100] for colour in range(3)])
        self.assertEqual(got[2:], [[50], [102], [150]])

    def test_the_light_comes_ahead_of_the_curve(self):
        curve = [CURVE, 1, [100, 10, 101, 200]]
        for light, answer in ((25, 10), (26, 200), (24, 10)):
            self.assertEqual(last(curve, load((1, 1, (light, 25, 25))), [PRINT, 1, 0, 0, 100]), [answer], light)

    def test_the_frame_tells_the_scene(self):
        got = ask(
            LINE, load((1, 2, (0, 25, 25)), (2, 3, (50, 25, 25)), (3, 1, MIDDLE)),
            *[[PRINT, 1, n, 0, 100] for n in range(7)],
        )
        self.assertEqual(got[2:], [[50], [50], [150], [150], [150], [100], [-4]])


class Fades(unittest.TestCase):
    def test_no_fades(self):
        self.assertEqual(prints((1, 4, MIDDLE)), [255] * 4)

    def test_in(self):
        self.assertEqual(prints((1, 5, MIDDLE, 1, 0)), [127, 255, 255, 255, 255])
        self.assertEqual(prints((1, 5, MIDDLE, 3, 0)), [63, 127, 191, 255, 255])

    def test_out(self):
        self.assertEqual(prints((1, 5, MIDDLE, 0, 1)), [255, 255, 255, 255, 127])
        self.assertEqual(prints((1, 5, MIDDLE, 0, 3)), [255, 255, 191, 127, 63])

    def test_both(self):
        self.assertEqual(prints((1, 6, MIDDLE, 2, 3)), [85, 170, 255, 191, 127, 63])

    def test_over_all_frames(self):
        self.assertEqual(prints((1, 4, MIDDLE, 4, 0)), [51, 102, 153, 204])
        self.assertEqual(prints((1, 4, MIDDLE, 0, 4)), [204, 153, 102, 51])
        self.assertEqual(prints((1, 4, MIDDLE, 2, 2)), [85, 170, 170, 85])
        self.assertEqual(prints((1, 1, MIDDLE, 1, 0)), [127])
        self.assertEqual(prints((1, 1, MIDDLE, 0, 1)), [127])

    def test_what_the_curve_makes_is_what_fades(self):
        curve = [CURVE, 1, [0, 40, 255, 40]]
        got = ask(curve, load((1, 2, (50, 0, 25), 1)), *[[PRINT, 1, 0, c, 255] for c in range(3)])
        self.assertEqual(got[2:], [[20]] * 3)

    def test_the_longest_fades(self):
        scene = (1, 5000, MIDDLE, 2500, 2500)
        for n, answer in (
            (0, 255 // 2501), (1, 510 // 2501), (2499, 255 * 2500 // 2501), (2500, 255 * 2500 // 2501), (2501, 254),
            (4998, 510 // 2501), (4999, 0),
        ):
            self.assertEqual(last(LEVEL, load(scene), [PRINT, 2, n, 0, 0]), [answer], n)
        self.assertEqual(last(LEVEL, load((1, 5000, MIDDLE, 5000)), [PRINT, 2, 4999, 0, 0]), [255 * 5000 // 5001])
        self.assertEqual(last(LEVEL, load((1, 5000, MIDDLE, 0, 5000)), [PRINT, 2, 0, 0, 0]), [255 * 5000 // 5001])

    def test_a_later_scene_fades_by_its_own_frames(self):
        before = load((1, 3, MIDDLE), (2, 4, MIDDLE, 1, 1), (3, 2, MIDDLE))
        got = ask(LEVEL, before, *[[PRINT, 2, n, 0, 9] for n in range(9)])
        self.assertEqual(got[2:], [[n] for n in (255, 255, 255, 127, 255, 255, 127, 255, 255)])

    def test_against_the_sentence(self):
        shape = [10, 3, 90, 100, 91, 180, 240, 251]
        table = table_of(shape)
        below = numbers_from(18)
        for frames in range(1, 9):
            for fade_in in range(frames + 1):
                for fade_out in range(frames - fade_in + 1):
                    scene = (4, frames, (below(51), below(51), below(51)), fade_in, fade_out)
                    asked = [(j, below(3), below(256)) for j in range(frames)]
                    got = ask([CURVE, 1, shape], load(scene), *[[PRINT, 1, *one] for one in asked])
                    expected = [[printed(table, scene, colour, v, j)] for j, colour, v in asked]
                    self.assertEqual(got[2:], expected, scene)


class PrintRefusals(unittest.TestCase):
    def refused(self, key, n, colour, v, answer):
        self.assertEqual(last(LINE, load((1, 5, MIDDLE)), [PRINT, key, n, colour, v]), [answer], (key, n, colour, v))

    def test_the_ends_of_the_ranges(self):
        for n, colour, v, answer in ((0, 0, 0, 0), (4, 2, 255, 255), (5, 0, 0, -4), (200000, 2, 255, -4)):
            self.refused(1, n, colour, v, answer)
        for n in (-1, 200001, FAR, -FAR):
            self.refused(1, n, 0, 0, -1)
        for colour in (-1, 3, FAR, -FAR):
            self.refused(1, 0, colour, 0, -1)
        for v in (-1, 256, FAR, -FAR):
            self.refused(1, 0, 0, v, -1)
        for key in (0, 100, FAR, -FAR):
            self.refused(key, 0, 0, 0, -1)
        for key in (2, 99):
            self.refused(key, 0, 0, 0, -4)

    def test_order(self):
        # A missing curve, a curve out of range and a missing frame, each behind what's asked ahead of it.
        for n, colour, v in ((-1, 0, 0), (200001, 0, 0), (0, 3, 0), (0, -1, 0), (0, 0, 256), (0, 0, -1)):
            self.refused(2, n, colour, v, -1)
        self.refused(0, 5, 0, 0, -1)
        self.refused(100, 5, 0, 0, -1)
        self.refused(2, 5, 0, 0, -4)
        self.refused(1, 5, 3, 0, -1)
        self.refused(1, 5, 0, 256, -1)

    def test_without_scenes(self):
        self.assertEqual(last(LINE, [PRINT, 1, 0, 0, 0]), [-4])
        self.assertEqual(last([PRINT, 1, 0, 0, 0]), [-4])
        self.assertEqual(last([PRINT, 0, 0, 0, 0]), [-1])


class Lost(unittest.TestCase):
    def test_just_at_the_ends_and_one_beyond(self):
        for light, values, lost in (
            (25, [0, 1, 254, 255], []),
            (26, [0, 252, 253, 254, 255], [254, 255]),
            (24, [0, 1, 2, 3, 255], [0, 1]),
            (50, [0, 204, 205, 206, 255], [206, 255]),
            (0, [0, 49, 50, 51, 255], [0, 49]),
            (49, [207, 208], [208]),
            (1, [48, 47], [47]),
        ):
            got = last(load((1, 1, (light, 25, 25))), [LOST, 0, 0, values])
            self.assertEqual(got, [len(lost)] + lost, light)

    def test_as_listed_repeats_too(self):
        got = last(load((1, 1, (50, 25, 25))), [LOST, 0, 0, [255, 3, 230, 255, 205, 206, 230, 0]])
        self.assertEqual(got, [5, 255, 230, 255, 206, 230])

    def test_each_colour_has_its_light(self):
        scene = load((1, 1, (0, 25, 50)))
        got = ask(scene, *[[LOST, 0, colour, [255, 0]] for colour in range(3)])
        self.assertEqual(got[1:], [[1, 0], [0], [1, 255]])

    def test_the_frame_tells_the_scene(self):
        scenes = load((1, 2, (0, 25, 25)), (2, 3, (50, 25, 25)))
        got = ask(scenes, *[[LOST, n, 0, [0, 255]] for n in range(6)])
        self.assertEqual(got[1:], [[1, 0], [1, 0], [1, 255], [1, 255], [1, 255], [-4]])

    def test_fades_and_curves_lose_nothing(self):
        self.assertEqual(last(LEVEL, load((1, 2, MIDDLE, 1, 1)), [LOST, 0, 0, [0, 255]]), [0])

    def test_all_values_by_all_lights(self):
        values = list(range(256))
        for light in range(51):
            calls = [[LOST, 0, 0, values[k:k + 60]] for k in range(0, 256, 60)]
            got = ask(load((1, 1, MIDDLE)), [LIGHTS, 0, light, 25, 25], *calls)[2:]
            lost = [number for answer in got for number in answer[1:]]
            self.assertEqual(lost, [v for v in values if not 0 <= v + 2 * (light - 25) <= 255], light)
            self.assertEqual([answer[0] for answer in got], [len(answer) - 1 for answer in got])

    def test_how_many_values(self):
        scene = load((1, 1, (0, 25, 50)))
        self.assertEqual(last(scene, [LOST, 0, 0, []]), [0])
        self.assertEqual(last(scene, [LOST, 0, 0, [7] * 60]), [60] + [7] * 60)
        for some in ([7] * 61, [7] * 1599, [7] * 1600, [FAR] * 1600):
            self.assertEqual(last(scene, [LOST, 0, 0, some]), [-1], len(some))

    def test_refusals_and_their_order(self):
        for n, colour, some, answer in (
            (-1, 0, [1], -1), (200001, 0, [1], -1), (FAR, 0, [1], -1), (-FAR, 0, [1], -1),
            (0, -1, [1], -1), (0, 3, [1], -1), (0, FAR, [1], -1), (0, -FAR, [1], -1),
            (0, 0, [-1], -1), (0, 0, [256], -1), (0, 0, [FAR], -1), (0, 0, [-FAR], -1), (0, 0, [0] * 59 + [256], -1),
            (4, 2, [0, 255], 0), (5, 0, [1], -4), (200000, 2, [0, 255], -4), (5, 0, [], -4),
            (5, 3, [1], -1), (5, 0, [256], -1), (5, 0, [0] * 61, -1),
        ):
            got = last(load((1, 5, MIDDLE)), [LOST, n, colour, some])
            self.assertEqual(got, [answer], (n, colour, some))
        self.assertEqual(last([LOST, 0, 0, [1]]), [-4])


if __name__ == "__main__":
    unittest.main()
