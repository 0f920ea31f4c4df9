"""What must hold of the arguments of a call, before anything is done with them."""

from printlights.refusals import NotAsTold, OutOfRange

MOST_KEY = 99
MOST_VALUE = 255
MOST_WEIGHT = 1000
MOST_POINTS = 20
MOST_THREES = 30
MOST_BYTES = 1500


def need_between(number, least, most):
    if number < least or number > most:
        raise OutOfRange()


def need_key(key):
    need_between(key, 1, MOST_KEY)


def need_value(number):
    need_between(number, 0, MOST_VALUE)


# The length comes first, so that a row that is cut short is never read in groups.
def need_groups(row, size, most):
    if len(row) % size != 0:
        raise OutOfRange()
    need_between(len(row) // size, 1, most)


def need_points(points):
    need_groups(points, 2, MOST_POINTS)
    for number in points:
        need_value(number)


def need_measured(measured):
    need_groups(measured, 3, MOST_THREES)
    for three in threes_of(measured):
        need_value(three[0])
        need_value(three[1])
        need_between(three[2], 1, MOST_WEIGHT)


def need_text(text):
    need_between(len(text), 0, MOST_BYTES)
    for byte in text:
        need_value(byte)


def need_rising(pairs):
    for before, after in zip(pairs, pairs[1:]):
        if after[0] <= before[0] or after[1] < before[1]:
            raise NotAsTold()


def pairs_of(points):
    return list(zip(points[0::2], points[1::2]))


def threes_of(measured):
    return list(zip(measured[0::3], measured[1::3], measured[2::3]))
