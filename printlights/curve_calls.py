"""The calls on curves, 0 to 13. Each takes the house, the call's numbers and the call's rows."""

from printlights.checks import need_key, need_measured, need_points, need_rising, need_value, pairs_of, threes_of
from printlights.curve import count_left_out, count_repeats, first_difference, is_nowhere_above
from printlights.curve import one_behind_another, through, turned_from_above, turned_from_below
from printlights.nearest import blocks_left, blocks_of_one, error_of, nearest_curve


def call_curve(house, numbers, rows):
    need_key(numbers[0])
    need_points(rows[0])
    pairs = pairs_of(rows[0])
    need_rising(pairs)
    house.put_curve(numbers[0], through(pairs))
    return [0]


def call_table(house, numbers, rows):
    return list(house.curve(numbers[0]))


def call_at(house, numbers, rows):
    need_value(numbers[1])
    return [house.curve(numbers[0])[numbers[1]]]


def call_compose(house, numbers, rows):
    need_key(numbers[2])
    first = house.curve(numbers[0])
    second = house.curve(numbers[1])
    house.put_curve(numbers[2], one_behind_another(first, second))
    return [0]


def call_low(house, numbers, rows):
    need_key(numbers[1])
    house.put_curve(numbers[1], turned_from_below(house.curve(numbers[0])))
    return [0]


def call_high(house, numbers, rows):
    need_key(numbers[1])
    house.put_curve(numbers[1], turned_from_above(house.curve(numbers[0])))
    return [0]


def call_holes(house, numbers, rows):
    curve = house.curve(numbers[0])
    return [count_repeats(curve), count_left_out(curve)]


def call_fit(house, numbers, rows):
    need_key(numbers[0])
    need_measured(rows[0])
    threes = threes_of(rows[0])
    curve = nearest_curve(threes)
    house.put_curve(numbers[0], curve)
    return [error_of(curve, threes)]


def call_blocks(house, numbers, rows):
    need_measured(rows[0])
    left = blocks_left(blocks_of_one(threes_of(rows[0])))
    answer = [len(left)]
    for block in left:
        answer.extend([block.first, block.last, block.total, block.weight])
    return answer


def call_error(house, numbers, rows):
    need_measured(rows[0])
    return [error_of(house.curve(numbers[0]), threes_of(rows[0]))]


def call_same(house, numbers, rows):
    one = house.curve(numbers[0])
    other = house.curve(numbers[1])
    x = first_difference(one, other)
    return [1] if x < 0 else [0, x]


def call_below(house, numbers, rows):
    one = house.curve(numbers[0])
    other = house.curve(numbers[1])
    return [1] if is_nowhere_above(one, other) else [0]


def call_drop(house, numbers, rows):
    house.drop_curve(numbers[0])
    return [0]


def call_curves(house, numbers, rows):
    return [len(house.curves)] + sorted(house.curves)


# For each call: how many numbers it has, how many rows, and what carries it out.
CURVE_CALLS = {
    0: (1, 1, call_curve),
    1: (1, 0, call_table),
    2: (2, 0, call_at),
    3: (3, 0, call_compose),
    4: (2, 0, call_low),
    5: (2, 0, call_high),
    6: (1, 0, call_holes),
    7: (1, 1, call_fit),
    8: (0, 1, call_blocks),
    9: (1, 1, call_error),
    10: (2, 0, call_same),
    11: (2, 0, call_below),
    12: (1, 0, call_drop),
    13: (0, 0, call_curves),
}
