"""The refusals: one error class for each, and the number that is answered for it."""

ANSWER_OUT_OF_RANGE = -1
ANSWER_WRONG_NUMBER = -2
ANSWER_NOT_AS_TOLD = -3
ANSWER_NOT_THERE = -4
ANSWER_NOTHING_BEFORE = -6
ANSWER_TOO_MANY = -9


class OutOfRange(Exception):
    pass


class WrongNumber(Exception):
    pass


class NotAsTold(Exception):
    pass


class NotThere(Exception):
    pass


class NothingBefore(Exception):
    pass


class TooMany(Exception):
    pass
