"""Choosing lights for targets: the nearest light, and the best smooth row for pairs (a value, a target)."""

from printlights.printing import MIDDLE_LIGHT, by_light
from printlights.scene import MOST_LIGHT


def how_far_off(curve, v, target, light):
    return abs(target - curve[by_light(v, light)])


# Lights are tried in the order in which they are liked best, so a later one must be less far off.
def nearest_light(curve, v, target):
    best = MIDDLE_LIGHT
    for away in range(1, MIDDLE_LIGHT + 1):
        for light in (MIDDLE_LIGHT - away, MIDDLE_LIGHT + away):
            if how_far_off(curve, v, target, light) < how_far_off(curve, v, target, best):
                best = light
    return best


def row_far_off(curve, pairs, row):
    return sum([how_far_off(curve, pair[0], pair[1], light) for pair, light in zip(pairs, row)])


# At each place the least of the lights that a best row can go on with makes it the first of all best rows.
def best_smooth_row(curve, pairs, apart):
    row = []
    least = 0
    most = MOST_LIGHT
    for totals in totals_by_light(curve, pairs, apart):
        light = first_least(totals, least, most)
        row.append(light)
        least = max(light - apart, 0)
        most = min(light + apart, MOST_LIGHT)
    return row


# For each pair, by its light: how far off the best smooth row of this pair and of those behind it is.
# It is worked out from the back, so that the row can be told from its first light on.
def totals_by_light(curve, pairs, apart):
    tables = []
    totals = [0] * (MOST_LIGHT + 1)
    for v, target in reversed(pairs):
        totals = totals_before(totals, curve, v, target, apart)
        tables.append(totals)
    return list(reversed(tables))


def totals_before(behind, curve, v, target, apart):
    totals = []
    for light in range(MOST_LIGHT + 1):
        near = behind[max(light - apart, 0):light + apart + 1]
        totals.append(how_far_off(curve, v, target, light) + min(near))
    return totals


def first_least(totals, least, most):
    best = least
    for light in range(least, most + 1):
        if totals[light] < totals[best]:
            best = light
    return best
