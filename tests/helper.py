"""Calls written as lists, handed to the program as one list of numbers, with the answers parted again."""

from printlights.house import answers

FAR = 1000000000000000000

CURVE, TABLE, AT, COMPOSE, LOW, HIGH, HOLES, FIT, BLOCKS, ERROR, SAME, BELOW, DROP, CURVES, SHEET = range(15)
SHOWN, SCENE, FRAME, PRINT, LOST, LIGHTS, TRIM, FADE, CUT, NEAREST, SMOOTH, COST, CHANGES, UNDO, COUNTS = range(15, 30)

# f(x) = x
STRAIGHT = [0, 0, 255, 255]


def flat(calls):
    numbers = []
    for call in calls:
        for part in call:
            if isinstance(part, list):
                numbers.append(len(part))
                numbers.extend(part)
            else:
                numbers.append(part)
    return numbers


def ask(*calls):
    told = answers(flat(calls))
    parted = []
    place = 0
    while place < len(told):
        parted.append(told[place + 1:place + 1 + told[place]])
        place += 1 + told[place]
    if place != len(told) or len(parted) != len(calls):
        raise AssertionError("the answers aren't one for each call")
    return parted


def last(*calls):
    return ask(*calls)[-1]


def table_of(points):
    return last([CURVE, 1, points], [TABLE, 1])


def eight_curves(first=1):
    return [[CURVE, key, STRAIGHT] for key in range(first, first + 8)]


def codes(text):
    return list(text.encode("latin-1"))


def sheet(text):
    return last([SHEET, codes(text)])


def line(number, frames, lights, fade_in=0, fade_out=0):
    """A scene's line as it is shown."""
    text = f"scene {number} frames {frames} lights {lights[0]} {lights[1]} {lights[2]}"
    text += f" in {fade_in}" if fade_in else ""
    text += f" out {fade_out}" if fade_out else ""
    return text + "\n"


def many(count):
    return "".join(line(k, 1, (0, 0, 0)) for k in range(1, count + 1))


def load(*scenes):
    """The call that makes these scenes the sheet, each told as line tells it."""
    return [SHEET, codes("".join(line(*scene) for scene in scenes))]


def told(answer):
    """The text that shown answers."""
    if answer[0] != len(answer) - 1:
        raise AssertionError("not as many bytes as told")
    return bytes(answer[1:]).decode("latin-1")


def shown_after(*calls):
    return told(last(*calls, [SHOWN]))


def numbers_from(seed):
    """A function that tells numbers below what it is handed, as if by chance, but the same ones each time."""
    state = [seed]

    def below(most):
        state[0] = (state[0] * 6364136223846793005 + 1442695040888963407) % 2 ** 64
        return (state[0] >> 33) % most

    return below


def state_calls():
    """Calls whose answers tell all curves with keys 1 to 99, the sheet, and each sheet that can be brought back."""
    return [[CURVES]] + [[TABLE, key] for key in range(1, 100)] + [[COUNTS], [SHOWN]] + [[UNDO], [SHOWN]] * 21
