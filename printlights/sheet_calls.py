"""The calls on the sheet. Each takes the house, the call's numbers and the call's rows."""

from printlights.checks import need_text
from printlights.sheet import NOTHING_WRONG, read_sheet


def call_sheet(house, numbers, rows):
    need_text(rows[0])
    reading = read_sheet(rows[0])
    if reading.wrong != NOTHING_WRONG:
        return [1, reading.line, reading.wrong]
    house.change_sheet(reading.scenes)
    return [0, len(reading.scenes)]


# For each call: how many numbers it has, how many rows, and what carries it out.
SHEET_CALLS = {
    14: (0, 1, call_sheet),
}
