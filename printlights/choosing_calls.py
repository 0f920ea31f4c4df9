"""The calls that choose lights, 24 to 26. Each takes the house, the call's numbers and the call's rows."""

from printlights.checks import need_light, need_lights, need_pairs, need_value, pairs_of
from printlights.choosing import best_smooth_row, how_far_off, nearest_light, row_far_off
from printlights.refusals import NotAsTold


def call_nearest(house, numbers, rows):
    v = numbers[1]
    target = numbers[2]
    need_value(v)
    need_value(target)
    curve = house.curve(numbers[0])
    light = nearest_light(curve, v, target)
    return [light, how_far_off(curve, v, target, light)]


# Lights can be no further apart than the least and the greatest, so apart has the range of a light.
def call_smooth(house, numbers, rows):
    apart = numbers[1]
    need_light(apart)
    need_pairs(rows[0])
    curve = house.curve(numbers[0])
    pairs = pairs_of(rows[0])
    row = best_smooth_row(curve, pairs, apart)
    return [row_far_off(curve, pairs, row)] + row


def call_cost(house, numbers, rows):
    row = rows[1]
    need_pairs(rows[0])
    need_lights(row)
    pairs = pairs_of(rows[0])
    if len(row) != len(pairs):
        raise NotAsTold()
    return [row_far_off(house.curve(numbers[0]), pairs, row)]


# For each call: how many numbers it has, how many rows, and what carries it out.
CHOOSING_CALLS = {
    24: (3, 0, call_nearest),
    25: (2, 1, call_smooth),
    26: (1, 2, call_cost),
}
