"""The nearest curve: the rising one with the least error over what is measured, as threes (x, y, weight)."""

from printlights.curve import through


class Block:
    def __init__(self, first, last, total, weight):
        self.first = first
        self.last = last
        self.total = total
        self.weight = weight


def blocks_of_one(threes):
    totals = {}
    weights = {}
    for x, y, weight in threes:
        totals[x] = totals.get(x, 0) + weight * y
        weights[x] = weights.get(x, 0) + weight
    return [Block(x, x, totals[x], weights[x]) for x in sorted(totals)]


# The means are fractions: multiplied out, they are compared without a remainder lost.
def mean_falls(before, after):
    return after.total * before.weight < before.total * after.weight


def made_one(before, after):
    return Block(before.first, after.last, before.total + after.total, before.weight + after.weight)


def blocks_left(singles):
    left = []
    for single in singles:
        block = single
        while len(left) > 0 and mean_falls(left[-1], block):
            block = made_one(left.pop(), block)
        left.append(block)
    return left


# Half a weight is added ahead of rounding down, so halves go up.
def rounded_mean(block):
    return (2 * block.total + block.weight) // (2 * block.weight)


def points_in(block, singles):
    height = rounded_mean(block)
    return [(single.first, height) for single in singles if block.first <= single.first and single.last <= block.last]


def nearest_curve(threes):
    singles = blocks_of_one(threes)
    points = []
    for block in blocks_left(singles):
        points.extend(points_in(block, singles))
    return through(points)


def error_of(curve, threes):
    error = 0
    for x, y, weight in threes:
        error += weight * (y - curve[x]) ** 2
    return error
