"""Calls written as the interface lays them out, and the answers taken apart again."""

from framering.recorder import answers

BIG = 10 ** 18


def lay(slots, length, first, *parameters):
    row = [number for parameter in parameters for number in parameter]
    return lay_row(slots, length, first, row)


def lay_row(slots, length, first, row):
    return [0, slots, length, first, len(row)] + list(row)


def record(*values):
    return [1, len(values)] + list(values)


def cut(k):
    return [2, k]


def flip(slot, byte, bit):
    return [3, slot, byte, bit]


def restart():
    return [4]


def read():
    return [5]


def slot(number):
    return [6, number]


def dump():
    return [7]


def hear(what, p, n):
    return [8, what, p, n]


def listen(some):
    return [9, len(some)] + list(some)


def next_number():
    return [10]


def totals():
    return [11]


def join(calls):
    return [number for call in calls for number in call]


def split(flat):
    parts = []
    place = 0
    while place < len(flat):
        end = place + 1 + flat[place]
        parts.append(flat[place + 1:end])
        place = end
    return parts


def ask(*calls):
    parts = split(answers(join(calls)))
    if len(parts) != len(calls):
        raise AssertionError(f"{len(calls)} calls, but {len(parts)} answers")
    return parts


def last(*calls):
    return ask(*calls)[-1]


def told(*frames):
    """The answer of read, hear and listen for frames written (number, missing, [values])."""
    flat = [len(frames)]
    for number, missing, values in frames:
        flat += [number, missing, len(values)] + list(values)
    return flat


def frame(number, *data):
    """The bytes of a frame whose len bytes of values are data."""
    head = [number // 256, number % 256] + list(data)
    return head + [sum(head) // 256, sum(head) % 256] + head[:2]


def sent(*frames):
    """The bytes of whole frames as they go over the line."""
    flat = []
    for each in frames:
        flat += [192] + [part for byte in each for part in ESCAPED.get(byte, [byte])] + [193]
    return flat


ESCAPED = {192: [194, 0], 193: [194, 1], 194: [194, 2]}
ONE_BYTE = (8, 1, 0)
