"""The calls on the sheet, 14 to 23 and 27 to 29. Each takes the house, the call's numbers and the call's rows."""

from printlights.checks import need_between, need_colour, need_fade, need_frame, need_length, need_lights, need_listed
from printlights.checks import need_scene_number, need_text, need_value
from printlights.printing import is_lost, printed
from printlights.refusals import NotAsTold, TooMany, WrongNumber
from printlights.scene import MOST_LIGHT, MOST_SCENES, can_be_cut, count_frames, cut_in_two, fits_behind
from printlights.scene import light_changes, trimmed, with_fades, with_lights
from printlights.sheet import NOTHING_WRONG, read_sheet, shown

# What trim takes for a colour, and which colours' lights that is.
COLOURS_OF = ((0,), (1,), (2,), (0, 1, 2))


def call_sheet(house, numbers, rows):
    need_text(rows[0])
    reading = read_sheet(rows[0])
    if reading.wrong != NOTHING_WRONG:
        return [1, reading.line, reading.wrong]
    house.change_sheet(reading.scenes)
    return [0, len(reading.scenes)]


def call_shown(house, numbers, rows):
    text = shown(house.scenes)
    return [len(text)] + text


def call_scene(house, numbers, rows):
    scene = house.scene_at(numbers[0])
    return [scene.number, scene.frames] + list(scene.lights) + [scene.fade_in, scene.fade_out]


def call_frame(house, numbers, rows):
    need_frame(numbers[0])
    frame = house.frame_at(numbers[0])
    return [frame.scene.number, frame.place] + list(frame.scene.lights)


def call_print(house, numbers, rows):
    n = numbers[1]
    colour = numbers[2]
    v = numbers[3]
    need_frame(n)
    need_colour(colour)
    need_value(v)
    curve = house.curve(numbers[0])
    return [printed(curve, house.frame_at(n), colour, v)]


def call_lost(house, numbers, rows):
    n = numbers[0]
    colour = numbers[1]
    need_frame(n)
    need_colour(colour)
    need_listed(rows[0])
    light = house.frame_at(n).scene.lights[colour]
    lost = [v for v in rows[0] if is_lost(v, light)]
    return [len(lost)] + lost


def call_lights(house, numbers, rows):
    place = numbers[0]
    lights = numbers[1:]
    need_lights(lights)
    house.change_scene(place, [with_lights(house.scene_at(place), tuple(lights))])
    return [0]


def call_trim(house, numbers, rows):
    by = numbers[1]
    need_between(numbers[0], 0, len(COLOURS_OF) - 1)
    need_between(by, -MOST_LIGHT, MOST_LIGHT)
    colours = COLOURS_OF[numbers[0]]
    before = house.scenes
    after = [trimmed(scene, colours, by) for scene in before]
    house.change_sheet(after)
    return [len([1 for old, new in zip(before, after) if old.lights != new.lights])]


def call_fade(house, numbers, rows):
    place = numbers[0]
    fade_in = numbers[1]
    fade_out = numbers[2]
    need_fade(fade_in)
    need_fade(fade_out)
    scene = house.scene_at(place)
    if fade_in + fade_out > scene.frames:
        raise NotAsTold()
    house.change_scene(place, [with_fades(scene, fade_in, fade_out)])
    return [0]


def call_cut(house, numbers, rows):
    place = numbers[0]
    n = numbers[1]
    number = numbers[2]
    need_length(n)
    need_scene_number(number)
    scene = house.scene_at(place)
    if not can_be_cut(scene, n):
        raise NotAsTold()
    if not fits_behind(house.scenes, place, number):
        raise WrongNumber()
    if len(house.scenes) >= MOST_SCENES:
        raise TooMany()
    house.change_scene(place, cut_in_two(scene, n, number))
    return [0]


def call_changes(house, numbers, rows):
    found = light_changes(house.scenes)
    answer = [len(found)]
    for begins, scene in found:
        answer.append(begins)
        answer.extend(scene.lights)
    return answer


def call_undo(house, numbers, rows):
    house.take_back()
    return [len(house.sheets_before)]


def call_counts(house, numbers, rows):
    return [len(house.curves), len(house.scenes), count_frames(house.scenes), len(house.sheets_before)]


# For each call: how many numbers it has, how many rows, and what carries it out.
SHEET_CALLS = {
    14: (0, 1, call_sheet),
    15: (0, 0, call_shown),
    16: (1, 0, call_scene),
    17: (1, 0, call_frame),
    18: (4, 0, call_print),
    19: (2, 1, call_lost),
    20: (4, 0, call_lights),
    21: (2, 0, call_trim),
    22: (3, 0, call_fade),
    23: (3, 0, call_cut),
    27: (0, 0, call_changes),
    28: (0, 0, call_undo),
    29: (0, 0, call_counts),
}
