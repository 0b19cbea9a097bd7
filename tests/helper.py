"""Calls written as the interface lays them out, and the answers taken apart again."""

from framering.recorder import answers

BIG = 10 ** 18


def lay(slots, length, first, *parameters):
    row = [number for parameter in parameters for number in parameter]
    return lay_row(slots, length, first, row)


def lay_row(slots, length, first, row):
    return [0, slots, length, first, len(row)] + list(row)


def record(*values):
    return [1, len(values)] + list(values)


def cut(k):
    return [2, k]


def flip(slot, byte, bit):
    return [3, slot, byte, bit]


def restart():
    return [4]


def read():
    return [5]


def join(calls):
    return [number for call in calls for number in call]


def split(flat):
    parts = []
    place = 0
    while place < len(flat):
        end = place + 1 + flat[place]
        parts.append(flat[place + 1:end])
        place = end
    return parts


def ask(*calls):
    parts = split(answers(join(calls)))
    if len(parts) != len(calls):
        raise AssertionError(f"{len(calls)} calls, but {len(parts)} answers")
    return parts


def last(*calls):
    return ask(*calls)[-1]


def told(*frames):
    """The answer of read for frames written (number, missing, [values])."""
    flat = [len(frames)]
    for number, missing, values in frames:
        flat += [number, missing, len(values)] + list(values)
    return flat


ONE_BYTE = (8, 1, 0)
