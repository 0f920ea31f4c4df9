"""Timing sheets: a text, as a list of bytes, is read into scenes, or the first thing wrong with it is told.

Scenes are shown as such a text again.
"""

from printlights.scene import MOST_SCENES, Scene

LINE_END = 10
BLANK = 32
REMARK = 35
DIGIT_0 = 48
DIGIT_9 = 57
MOST_DIGITS = 4

FORM = ("scene", "N", "frames", "N", "lights", "N", "N", "N", "in", "N", "out", "N")
PLACE_OF_IN = 8
PLACE_OF_OUT = 10
RANGES = ((1, 999), (1, 5000), (0, 50), (0, 50), (0, 50), (0, 5000), (0, 5000))

NOTHING_WRONG = 0
WRONG_FORM = 1
WRONG_RANGE = 2
WRONG_FADES = 3
WRONG_ORDER = 4
WRONG_COUNT = 5


class Reading:
    def __init__(self, scenes, line, wrong):
        self.scenes = scenes
        self.line = line
        self.wrong = wrong


def read_sheet(text):
    scenes = []
    for place, line in enumerate(parted(text, LINE_END), start=1):
        words = words_of(line)
        if says_nothing(words):
            continue
        numbers = numbers_told(words)
        wrong = first_wrong(numbers, scenes)
        if wrong != NOTHING_WRONG:
            return Reading([], place, wrong)
        scenes.append(Scene(numbers[0], numbers[1], tuple(numbers[2:5]), numbers[5], numbers[6]))
    return Reading(scenes, 0, NOTHING_WRONG)


def parted(text, mark):
    parts = []
    part = []
    for byte in text:
        if byte == mark:
            parts.append(part)
            part = []
        else:
            part.append(byte)
    parts.append(part)
    return parts


def words_of(line):
    return [part for part in parted(line, BLANK) if len(part) > 0]


def says_nothing(words):
    return len(words) == 0 or words[0][0] == REMARK


# No numbers at all stand for a line that isn't of the form.
def numbers_told(words):
    full = filled_up(words)
    if len(full) != len(FORM):
        return []
    numbers = []
    for word, asked in zip(full, FORM):
        if asked == "N":
            if not is_number(word):
                return []
            numbers.append(number_of(word))
        elif word != spelled(asked):
            return []
    return numbers


# With the fades that aren't told put in as 0, there is one form to hold the words against.
def filled_up(words):
    full = words
    if len(full) == PLACE_OF_IN or (len(full) > PLACE_OF_IN and full[PLACE_OF_IN] != spelled("in")):
        full = full[:PLACE_OF_IN] + [spelled("in"), spelled("0")] + full[PLACE_OF_IN:]
    if len(full) == PLACE_OF_OUT:
        full = full + [spelled("out"), spelled("0")]
    return full


def spelled(word):
    return [ord(sign) for sign in word]


def is_number(word):
    if len(word) > MOST_DIGITS or (len(word) > 1 and word[0] == DIGIT_0):
        return False
    for byte in word:
        if byte < DIGIT_0 or byte > DIGIT_9:
            return False
    return True


def number_of(word):
    number = 0
    for byte in word:
        number = 10 * number + byte - DIGIT_0
    return number


def first_wrong(numbers, scenes):
    if len(numbers) == 0:
        return WRONG_FORM
    if not in_ranges(numbers):
        return WRONG_RANGE
    if numbers[1] < numbers[5] + numbers[6]:
        return WRONG_FADES
    # Numbers rise from scene to scene, so the last one is the greatest.
    if len(scenes) > 0 and numbers[0] <= scenes[-1].number:
        return WRONG_ORDER
    if len(scenes) >= MOST_SCENES:
        return WRONG_COUNT
    return NOTHING_WRONG


def in_ranges(numbers):
    for number, ends in zip(numbers, RANGES):
        if number < ends[0] or number > ends[1]:
            return False
    return True


def shown(scenes):
    text = []
    for scene in scenes:
        text.extend(spelled(" ".join(words_for(scene))))
        text.append(LINE_END)
    return text


def words_for(scene):
    words = ["scene", str(scene.number), "frames", str(scene.frames), "lights"]
    words.extend([str(light) for light in scene.lights])
    if scene.fade_in > 0:
        words.extend(["in", str(scene.fade_in)])
    if scene.fade_out > 0:
        words.extend(["out", str(scene.fade_out)])
    return words
