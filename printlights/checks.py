"""What must hold of the arguments of a call, before anything is done with them."""

from printlights.refusals import NotAsTold, OutOfRange
from printlights.scene import MOST_COLOUR, MOST_FRAMES, MOST_LIGHT, MOST_NUMBER, MOST_SCENES

MOST_KEY = 99
MOST_VALUE = 255
MOST_WEIGHT = 1000
MOST_POINTS = 20
MOST_THREES = 30
MOST_PAIRS = 12
MOST_BYTES = 1500
MOST_LISTED = 60
MOST_FRAME = 200000


def need_between(number, least, most):
    if number < least or number > most:
        raise OutOfRange()


def need_key(key):
    need_between(key, 1, MOST_KEY)


def need_value(number):
    need_between(number, 0, MOST_VALUE)


def need_values(row):
    for number in row:
        need_value(number)


# The length comes first, so that a row that is cut short is never read in groups.
def need_groups(row, size, least, most):
    if len(row) % size != 0:
        raise OutOfRange()
    need_between(len(row) // size, least, most)


def need_points(points):
    need_groups(points, 2, 1, MOST_POINTS)
    need_values(points)


def need_pairs(pairs):
    need_groups(pairs, 2, 0, MOST_PAIRS)
    need_values(pairs)


def need_measured(measured):
    need_groups(measured, 3, 1, MOST_THREES)
    for three in threes_of(measured):
        need_value(three[0])
        need_value(three[1])
        need_between(three[2], 1, MOST_WEIGHT)


def need_text(text):
    need_between(len(text), 0, MOST_BYTES)
    need_values(text)


def need_listed(listed):
    need_between(len(listed), 0, MOST_LISTED)
    need_values(listed)


# One place more than there can be is asked for in vain, but it is no wrong argument.
def need_place(place):
    need_between(place, 0, MOST_SCENES)


def need_frame(n):
    need_between(n, 0, MOST_FRAME)


def need_colour(colour):
    need_between(colour, 0, MOST_COLOUR)


def need_light(light):
    need_between(light, 0, MOST_LIGHT)


def need_lights(lights):
    for light in lights:
        need_light(light)


def need_fade(fade):
    need_between(fade, 0, MOST_FRAMES)


# No scene has more frames, so none is cut further in.
def need_length(n):
    need_between(n, 1, MOST_FRAMES)


def need_scene_number(number):
    need_between(number, 1, MOST_NUMBER)


def need_rising(pairs):
    for before, after in zip(pairs, pairs[1:]):
        if after[0] <= before[0] or after[1] < before[1]:
            raise NotAsTold()


def pairs_of(points):
    return list(zip(points[0::2], points[1::2]))


def threes_of(measured):
    return list(zip(measured[0::3], measured[1::3], measured[2::3]))
