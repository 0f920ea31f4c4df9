"""The call sheet."""

import unittest

from tests.helper import COUNTS, FAR, SCENE, SHEET, SHOWN, UNDO, ask, codes, last, many, sheet, shown_after, told

GOOD = "scene 1 frames 10 lights 25 25 25"


def scenes_of(text):
    got = ask([SHEET, codes(text)], *[[SCENE, place] for place in range(20)])[1:]
    return [
        (one[0], one[1], tuple(one[2:5]), one[5], one[6]) for one in got if one != [-4]
    ]


class Right(unittest.TestCase):
    def test_no_bytes(self):
        self.assertEqual(last([SHEET, []]), [0, 0])

    def test_lines_that_say_nothing(self):
        for text in ("\n", "\n\n\n", "   ", " \n  \n", "#", "# scene", "  #x y\n#\n", "#\x00\xff\n", "#scene 1\n \n"):
            self.assertEqual(sheet(text), [0, 0], text)

    def test_one_scene(self):
        self.assertEqual(sheet(GOOD), [0, 1])
        self.assertEqual(sheet(GOOD + "\n"), [0, 1])
        self.assertEqual(scenes_of(GOOD), [(1, 10, (25, 25, 25), 0, 0)])

    def test_blanks(self):
        text = "   scene  1   frames 10 lights  25    25 25   in  2 out   3  "
        self.assertEqual(sheet(text), [0, 1])
        self.assertEqual(scenes_of(text + "\n"), [(1, 10, (25, 25, 25), 2, 3)])

    def test_fades_told_and_missing(self):
        for tail, fades in (
            ("", (0, 0)), (" in 4", (4, 0)), (" out 6", (0, 6)), (" in 4 out 6", (4, 6)), (" in 0 out 0", (0, 0)),
            (" in 10", (10, 0)), (" out 10", (0, 10)), (" out 0", (0, 0)), (" in 0", (0, 0)),
        ):
            self.assertEqual(sheet(GOOD + tail), [0, 1], tail)
            self.assertEqual(scenes_of(GOOD + tail), [(1, 10, (25, 25, 25)) + fades])

    def test_the_ends_of_the_ranges(self):
        for text, scene in (
            ("scene 1 frames 1 lights 0 0 0", (1, 1, (0, 0, 0), 0, 0)),
            ("scene 999 frames 5000 lights 50 50 50", (999, 5000, (50, 50, 50), 0, 0)),
            ("scene 998 frames 4999 lights 48 49 50", (998, 4999, (48, 49, 50), 0, 0)),
            ("scene 9 frames 5000 lights 1 2 3 in 5000", (9, 5000, (1, 2, 3), 5000, 0)),
            ("scene 9 frames 5000 lights 1 2 3 out 5000", (9, 5000, (1, 2, 3), 0, 5000)),
            ("scene 10 frames 100 lights 10 20 30 in 0 out 100", (10, 100, (10, 20, 30), 0, 100)),
        ):
            self.assertEqual(sheet(text), [0, 1], text)
            self.assertEqual(scenes_of(text), [scene])

    def test_several_scenes(self):
        text = f"# a remark\n{GOOD}\n\nscene 2 frames 5 lights 1 2 3 out 5\n  # more\nscene 999 frames 1 lights 0 0 50"
        self.assertEqual(sheet(text), [0, 3])
        self.assertEqual([scene[0] for scene in scenes_of(text)], [1, 2, 999])

    def test_twenty_scenes(self):
        self.assertEqual(sheet(many(20)), [0, 20])


class Wrong(unittest.TestCase):
    def test_not_of_this_form(self):
        for text in (
            "x", "scene", "scene 1", "scene 1 frames 10", "scene 1 frames 10 lights", "frames 10 lights 25 25 25",
            "scene 1 frames 10 lights 25 25", "scene 1 frames 10 lights 25 25 25 25",
            "scene 1 frames 10 lights 25 25 in 2", "scene 1 frames 10 lights 25 25 in 2 out 3",
            "scene frames 10 lights 25 25 25", "scene 1 lights 25 25 25 frames 10",
            GOOD + " in", GOOD + " out", GOOD + " in 1 out", GOOD + " in out 1", GOOD + " in 1 2", GOOD + " 1",
            GOOD + " out 1 in 1", GOOD + " in 1 in 1", GOOD + " out 1 out 1", GOOD + " in 1 out 1 x",
            GOOD + " in 1 out 1 in 1", GOOD + " fade 1", GOOD + " in 1 fade 1", GOOD + " # remark", GOOD + " #",
            "Scene 1 frames 10 lights 25 25 25", "SCENE 1 frames 10 lights 25 25 25",
            "scen 1 frames 10 lights 25 25 25", "scenes 1 frames 10 lights 25 25 25",
            "scene 1 frame 10 lights 25 25 25", "scene 1 frames 10 light 25 25 25", "N N N N N N N N",
            "scene 01 frames 10 lights 25 25 25", "scene 00 frames 10 lights 25 25 25",
            "scene 1 frames 010 lights 25 25 25", "scene 1 frames 10 lights 00 25 25",
            "scene 1 frames 10 lights 25 05 25", "scene 1 frames 10 lights 25 25 0000", GOOD + " in 01",
            GOOD + " out 00",
            "scene 10000 frames 10 lights 25 25 25", "scene 1 frames 10000 lights 25 25 25", GOOD + " in 00001",
            "scene 1 frames 10 lights 25 25 12345", GOOD + " out 99999",
            "scene -1 frames 10 lights 25 25 25", "scene +1 frames 10 lights 25 25 25",
            "scene 1 frames 1a lights 25 25 25", "scene 1 frames / lights 25 25 25", "scene 1 frames : lights 25 25 25",
            "scene N frames N lights N N N", "scene\t1 frames 10 lights 25 25 25", GOOD + "\t", GOOD + "\r",
            "\t", "\r", "\x00", "\xff", "\xa0", "x#", "scene1 frames 10 lights 25 25 25",
        ):
            self.assertEqual(sheet(text), [1, 1, 1], text)
            self.assertEqual(sheet("\n# x\n" + text + "\n"), [1, 3, 1], text)

    def test_a_number_out_of_its_range(self):
        for text in (
            "scene 0 frames 10 lights 25 25 25", "scene 1000 frames 10 lights 25 25 25",
            "scene 9999 frames 10 lights 25 25 25", "scene 1 frames 0 lights 25 25 25",
            "scene 1 frames 5001 lights 25 25 25", "scene 1 frames 10 lights 51 25 25",
            "scene 1 frames 10 lights 25 51 25", "scene 1 frames 10 lights 25 25 51",
            "scene 1 frames 10 lights 25 25 9999",
            "scene 1 frames 5000 lights 25 25 25 in 5001", "scene 1 frames 5000 lights 25 25 25 out 5001",
        ):
            self.assertEqual(sheet(text), [1, 1, 2], text)

    def test_fewer_frames_than_fades(self):
        for tail in (" in 11", " out 11", " in 5 out 6", " in 6 out 5", " in 5000 out 5000", " in 1 out 10"):
            self.assertEqual(sheet(GOOD + tail), [1, 1, 3], tail)
        self.assertEqual(sheet(GOOD + " in 5 out 5"), [0, 1])

    def test_a_number_that_does_not_rise(self):
        for number in (5, 4, 1):
            text = f"scene 5 frames 1 lights 0 0 0\n\nscene {number} frames 1 lights 0 0 0\n"
            self.assertEqual(sheet(text), [1, 3, 4], number)
        text = "scene 5 frames 1 lights 0 0 0\nscene 9 frames 1 lights 0 0 0\nscene 7 frames 1 lights 0 0 0"
        self.assertEqual(sheet(text), [1, 3, 4])
        self.assertEqual(sheet(text.replace("9", "6")), [0, 3])

    def test_a_twenty_first_scene(self):
        self.assertEqual(sheet(many(21)), [1, 21, 5])
        self.assertEqual(sheet("\n#\n" + many(22)), [1, 23, 5])

    def test_the_first_of_several_wrongs_of_one_line(self):
        before = "scene 5 frames 1 lights 0 0 0\n"
        for line, wrong in (
            ("scene 0 frames 1 lights 0 0 0 in 2 x", 1),
            ("scene 0 frames 1 lights 0 0 0 in 2", 2),
            ("scene 5 frames 1 lights 0 0 51 in 2", 2),
            ("scene 5 frames 0 lights 0 0 0 in 1", 2),
            ("scene 5 frames 1 lights 0 0 0 in 2", 3),
            ("scene 5 frames 1 lights 0 0 0 in 1", 4),
        ):
            self.assertEqual(sheet(before + line), [1, 2, wrong], line)
        for line, wrong in (
            ("scene 21 frames 1 lights 0 0", 1),
            ("scene 1000 frames 1 lights 0 0 0", 2),
            ("scene 21 frames 1 lights 0 0 0 out 2", 3),
            ("scene 20 frames 1 lights 0 0 0", 4),
            ("scene 21 frames 1 lights 0 0 0", 5),
        ):
            self.assertEqual(sheet(many(20) + line), [1, 21, wrong], line)
        self.assertEqual(sheet(many(20) + "# remark\n \n"), [0, 20])

    def test_the_first_wrong_line(self):
        lines = ["scene 5 frames 1 lights 0 0 0", "scene 6 frames 1 lights 0 0 51", "scene 6 frames 1"]
        self.assertEqual(sheet("\n".join(lines)), [1, 2, 2])
        self.assertEqual(sheet("\n".join([lines[0], lines[2], lines[1]])), [1, 2, 1])
        self.assertEqual(sheet("\n".join([lines[0], lines[0], lines[2]])), [1, 2, 4])


class Bytes(unittest.TestCase):
    def test_how_many(self):
        self.assertEqual(last([SHEET, [32] * 1500]), [0, 0])
        self.assertEqual(last([SHEET, [10] * 1500]), [0, 0])
        self.assertEqual(last([SHEET, [120] * 1500]), [1, 1, 1])
        self.assertEqual(last([SHEET, [10] * 1499 + [120]]), [1, 1500, 1])
        self.assertEqual(last([SHEET, codes(GOOD.ljust(1500))]), [0, 1])
        self.assertEqual(last([SHEET, [32] * 1501]), [-1])
        self.assertEqual(last([SHEET, [32] * 1600]), [-1])
        self.assertEqual(last([SHEET, codes(GOOD.ljust(1501))]), [-1])

    def test_which(self):
        for byte, answer in (
            (0, [1, 1, 1]), (255, [1, 1, 1]), (-1, [-1]), (256, [-1]), (FAR, [-1]), (-FAR, [-1]), (32 + 256, [-1]),
        ):
            self.assertEqual(last([SHEET, [byte]]), answer, byte)
        self.assertEqual(last([SHEET, codes("wrong\n") + [256]]), [-1])
        self.assertEqual(last([SHEET, codes("# ") + [256]]), [-1])
        self.assertEqual(last([SHEET, codes("# ") + [0, 1, 127, 128, 255]]), [0, 0])


class Changes(unittest.TestCase):
    def test_the_sheet_is_kept(self):
        self.assertEqual(shown_after([SHEET, codes(GOOD)]), GOOD + "\n")
        self.assertEqual(shown_after([SHEET, codes(GOOD)], [SHEET, codes(many(3))]), many(3))
        self.assertEqual(shown_after([SHEET, codes(many(3))], [SHEET, []]), "")

    def test_a_wrong_text_changes_nothing(self):
        got = ask([SHEET, codes(many(2))], [SHEET, codes(GOOD + "\nx")], [SHOWN], [COUNTS])
        self.assertEqual(got[1], [1, 2, 1])
        self.assertEqual(told(got[2]), many(2))
        self.assertEqual(got[3], [0, 2, 2, 1])

    def test_the_last_twenty_are_kept(self):
        sheets = [many(count % 15) for count in range(30)]
        got = ask(*[[SHEET, codes(text)] for text in sheets], *[[UNDO], [SHOWN]] * 20, [UNDO])[30:]
        self.assertEqual([told(answer) for answer in got[1:40:2]], sheets[28:8:-1])
        self.assertEqual(got[40], [-6])

    def test_one_text_behind_another(self):
        got = ask([SHEET, codes(many(20))], [SHEET, codes(many(20))], [SHEET, codes("x")], [SHEET, [256]], [SHEET, []])
        self.assertEqual(got, [[0, 20], [0, 20], [1, 1, 1], [-1], [0, 0]])


if __name__ == "__main__":
    unittest.main()
