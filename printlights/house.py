"""The calls on one house, read one behind another, carried out and answered."""

from printlights.choosing_calls import CHOOSING_CALLS
from printlights.curve_calls import CURVE_CALLS
from printlights.refusals import ANSWER_NOT_AS_TOLD, ANSWER_NOT_THERE, ANSWER_NOTHING_BEFORE, ANSWER_OUT_OF_RANGE
from printlights.refusals import ANSWER_TOO_MANY, ANSWER_WRONG_NUMBER
from printlights.refusals import NotAsTold, NotThere, NothingBefore, OutOfRange, TooMany, WrongNumber
from printlights.sheet_calls import SHEET_CALLS
from printlights.state import House


class Reader:
    def __init__(self, calls):
        self.calls = calls
        self.place = 0

    def is_done(self):
        return self.place >= len(self.calls)

    def take_one(self):
        number = self.calls[self.place]
        self.place += 1
        return number

    # A slice is a copy: what is handed in stays as it was, whatever becomes of what is taken.
    def take_many(self, many):
        taken = self.calls[self.place:self.place + many]
        self.place += many
        return taken

    def take_rows(self, many):
        rows = []
        while len(rows) < many:
            rows.append(self.take_many(self.take_one()))
        return rows


def answers(calls):
    house = House()
    reader = Reader(calls)
    told = []
    while not reader.is_done():
        answer = answer_of_next(house, reader)
        told.append(len(answer))
        told.extend(answer)
    return told


# The whole call is read ahead of carrying it out, so that a refused one is passed over too.
def answer_of_next(house, reader):
    form = form_of(reader.take_one())
    numbers = reader.take_many(form[0])
    rows = reader.take_rows(form[1])
    return answer_or_refusal(form[2], house, numbers, rows)


def form_of(call):
    if call in CURVE_CALLS:
        return CURVE_CALLS[call]
    if call in SHEET_CALLS:
        return SHEET_CALLS[call]
    return CHOOSING_CALLS[call]


def answer_or_refusal(carry_out, house, numbers, rows):
    try:
        return carry_out(house, numbers, rows)
    except OutOfRange:
        return [ANSWER_OUT_OF_RANGE]
    except WrongNumber:
        return [ANSWER_WRONG_NUMBER]
    except NotAsTold:
        return [ANSWER_NOT_AS_TOLD]
    except NotThere:
        return [ANSWER_NOT_THERE]
    except NothingBefore:
        return [ANSWER_NOTHING_BEFORE]
    except TooMany:
        return [ANSWER_TOO_MANY]
