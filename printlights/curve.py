"""Curves. A curve is the list of what the values 0 to 255 become; it is never changed once it is made."""

VALUES = 256
LAST_VALUE = 255


# Pairs come by rising first numbers, so one walk along the values meets them in order.
def through(pairs):
    curve = []
    place = 0
    for x in range(VALUES):
        while place + 1 < len(pairs) and pairs[place + 1][0] <= x:
            place += 1
        curve.append(on_the_way(pairs, place, x))
    return curve


# place is that of the last point at or before x, or 0 where x is before all points.
def on_the_way(pairs, place, x):
    here = pairs[place]
    if x <= here[0] or place + 1 == len(pairs):
        return here[1]
    ahead = pairs[place + 1]
    return here[1] + (ahead[1] - here[1]) * (x - here[0]) // (ahead[0] - here[0])


def one_behind_another(first, second):
    return [second[between] for between in first]


# As y rises the answer never falls back, so x goes on from where it was.
def turned_from_below(curve):
    turned = []
    x = 0
    for y in range(VALUES):
        while x < LAST_VALUE and curve[x] < y:
            x += 1
        turned.append(x)
    return turned


def turned_from_above(curve):
    turned = []
    x = 0
    for y in range(VALUES):
        while x < LAST_VALUE and curve[x + 1] <= y:
            x += 1
        turned.append(x)
    return turned


def count_repeats(curve):
    return len([1 for before, after in zip(curve, curve[1:]) if after == before])


# A curve never falls, so a value is left out only where two neighbours are more than 1 apart.
def count_left_out(curve):
    return sum([after - before - 1 for before, after in zip(curve, curve[1:]) if after > before])


# -1 stands for none: no value is below 0.
def first_difference(one, other):
    for x in range(VALUES):
        if one[x] != other[x]:
            return x
    return -1


def is_nowhere_above(one, other):
    for x in range(VALUES):
        if one[x] > other[x]:
            return False
    return True
