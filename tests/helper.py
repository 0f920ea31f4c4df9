"""Calls written as lists, handed to the program as one list of numbers, with the answers parted again."""

from printlights.house import answers

FAR = 1000000000000000000

CURVE, TABLE, AT, COMPOSE, LOW, HIGH, HOLES, FIT, BLOCKS, ERROR, SAME, BELOW, DROP, CURVES, SHEET = range(15)

# f(x) = x
STRAIGHT = [0, 0, 255, 255]


def flat(calls):
    numbers = []
    for call in calls:
        for part in call:
            if isinstance(part, list):
                numbers.append(len(part))
                numbers.extend(part)
            else:
                numbers.append(part)
    return numbers


def ask(*calls):
    told = answers(flat(calls))
    parted = []
    place = 0
    while place < len(told):
        parted.append(told[place + 1:place + 1 + told[place]])
        place += 1 + told[place]
    if place != len(told) or len(parted) != len(calls):
        raise AssertionError("the answers aren't one for each call")
    return parted


def last(*calls):
    return ask(*calls)[-1]


def table_of(points):
    return last([CURVE, 1, points], [TABLE, 1])


def eight_curves(first=1):
    return [[CURVE, key, STRAIGHT] for key in range(first, first + 8)]


def sheet(text):
    return last([SHEET, list(text.encode("latin-1"))])


def state_calls():
    """Calls whose answers tell all curves that there are with keys 1 to 99."""
    return [[CURVES]] + [[TABLE, key] for key in range(1, 100)]
