"""Long mixed lists of calls, beside a model that never looks at bytes to tell which frames are good.

The model keeps of each slot which frame was last recorded whole in it and not spoilt since. One flipped bit always
spoils a good slot and never makes one good, and a hurt slot is not flipped again, so that is enough. The bytes beside
it are written for slot alone; what is sent is made from the frames anew.
"""

import random
import re
import unittest

from tests.helper import (
    ask, cut, dump, flip, frame, hear, lay_row, listen, next_number, read, record, restart, sent, slot, told, totals)


def data_bytes(widths, values, length):
    bits = "".join(format(value, f"0{width}b") for width, value in zip(widths, values)).ljust(8 * length, "0")
    return [int(bits[at:at + 8], 2) for at in range(0, 8 * length, 8)]


def data_values(widths, data):
    bits = "".join(format(byte, "08b") for byte in data)
    places = [sum(widths[:at]) for at in range(len(widths))]
    return [int(bits[place:place + width], 2) for place, width in zip(places, widths)]


def heard_frames(some, length):
    """The frames told, found as texts: what stands between a begin and an end with neither of them between."""
    frames = []
    for body in re.findall("\xc0([^\xc0\xc1]*)\xc1", "".join(map(chr, some))):
        if not re.fullmatch("(?:[^\xc2]|\xc2[\0-\2])*", body):
            continue
        plain = [ord(sign) for sign in re.sub("\xc2(.)", lambda found: chr(192 + ord(found[1])), body, flags=re.S)]
        number = int.from_bytes(bytes(plain[:2]), "big")
        if len(plain) == length + 6 and plain == frame(number, *plain[2:-4]):
            if not frames or number > frames[-1][0]:
                frames.append((number, plain[2:-4]))
    return frames


class Model:
    def __init__(self):
        self.laid = False

    def lay(self, slots, length, first, row):
        threes = [row[at:at + 3] for at in range(0, len(row), 3)]
        if not (2 <= slots <= 16 and 1 <= length <= 16 and 0 <= first <= 65535) or len(row) % 3 or len(threes) > 12:
            return [-1]
        for width, period, phase in threes:
            if not 1 <= width <= 16 or period not in (1, 2, 4, 8, 16) or not 0 <= phase < period:
                return [-1]
        for number in range(65536 - 16, 65536):
            if sum(width for width, period, phase in threes if number % period == phase) > 8 * length:
                return [-3]
        self.laid = True
        self.slots, self.length, self.first, self.threes = slots, length, first, threes
        self.number, self.cut_at, self.good, self.hurt = first, None, {}, set()
        self.bytes = [[0] * (length + 7) for each in range(slots)]
        self.counts = [0, 0, 0]
        return [length + 7]

    def found(self):
        return 1 + max((number for number, values in self.good.values()), default=self.first - 1)

    def widths(self, number=None):
        number = self.number if number is None else number
        return [width for width, period, phase in self.threes if number % period == phase]

    def frame(self, number, values):
        return frame(number, *data_bytes(self.widths(number), values, self.length))

    def record(self, values):
        if self.number > 65535:
            return [-6]
        widths = self.widths()
        if len(values) != len(widths) or any(not 0 <= v < 2 ** w for v, w in zip(values, widths)):
            return [-4]
        slot, number, written = self.number % self.slots, self.number, self.length + 8
        if self.cut_at is not None:
            written = min(written, self.cut_at)
        self.cut_at = None
        if written:
            self.hurt.discard(slot)
            self.good.pop(slot, None)
            new = self.frame(number, values)
            self.bytes[slot] = [0] + new[:written - 1] + self.bytes[slot][written:]
        if written < self.length + 8:
            self.counts[1] += 1
            self.number = self.found()
            return [0, number]
        self.counts[0] += 1
        self.bytes[slot] = [165] + new
        self.good[slot] = (number, values)
        self.number += 1
        return [1, number]

    def cut(self, k):
        if not 0 <= k <= 1000:
            return [-1]
        self.cut_at = k
        return [0]

    def flip(self, slot, byte, bit):
        if slot not in range(self.slots) or byte not in range(self.length + 7) or bit not in range(8):
            return [-1]
        if slot in self.hurt:
            return [-5]
        self.hurt.add(slot)
        self.good.pop(slot, None)
        self.bytes[slot][byte] ^= 2 ** bit
        self.counts[2] += 1
        return [0]

    def restart(self):
        self.number, self.cut_at = self.found(), None
        return [self.number]

    def read(self):
        return self.told(sorted(self.good.values()))

    def told(self, frames):
        before = [frames[0][0] - 1] + [number for number, values in frames] if frames else []
        return told(*[(number, number - earlier - 1, values)
                      for earlier, (number, values) in zip(before, frames)])

    def slot(self, number):
        return [self.length + 7] + self.bytes[number] if number in range(self.slots) else [-1]

    def sent(self):
        return sent(*[self.frame(number, values) for number, values in sorted(self.good.values())])

    def dump(self):
        return [len(self.sent())] + self.sent()

    def hear(self, what, p, n):
        some = self.sent()
        if what not in range(3) or p not in range(len(some) + 1) or n not in range(1001):
            return [-1]
        if what == 2 and (p == len(some) or n > 7):
            return [-1]
        if what == 2:
            some[p] ^= 2 ** n
        else:
            some[p:p + n] = some[p:p + n] * (2 * what)
        return self.heard(some)

    def listen(self, some):
        return self.heard(some) if len(some) <= 800 and set(some) <= set(range(256)) else [-1]

    def heard(self, some):
        return self.told([(number, data_values(self.widths(number), data))
                          for number, data in heard_frames(some, self.length)])

    def next_number(self):
        places = [at for at, (width, period, phase) in enumerate(self.threes) if self.number % period == phase]
        return [self.number, len(places)] + places

    def totals(self):
        return self.counts + [len(self.good)]


class Walk:
    """Makes up calls one by one, most of them not refused, and asks the model alongside."""

    def __init__(self, seed):
        self.chance = random.Random(seed)
        self.model = Model()
        self.calls = []
        self.expected = []

    def near(self, low, high):
        if self.chance.random() < 0.03:
            return self.chance.choice([low - 1, high + 1, -10 ** 18, 10 ** 18])
        return self.chance.choice([low, high, self.chance.randint(low, high)])

    def parameters(self, length):
        row = []
        for each in range(self.chance.randint(0, self.chance.choice([2, 5, 13]))):
            period = self.chance.choice([1, 2, 4, 8, 16])
            row += [self.near(1, min(16, 3 * length)), period, self.near(0, period - 1)]
        return row + [1] * (self.chance.random() < 0.02)

    def lay(self):
        slots, length = self.near(2, 16), self.near(1, 16)
        first = self.chance.choice([self.near(0, 65535), self.chance.randint(65500, 65535)])
        row = self.parameters(length if 1 <= length <= 16 else 1)
        self.add(lay_row(slots, length, first, row), self.model.lay(slots, length, first, row))

    def record(self):
        values = [self.near(0, 2 ** width - 1) for width in self.model.widths()]
        if self.chance.random() < 0.03:
            values = values[1:] if values and self.chance.random() < 0.5 else values + [0]
        self.add(record(*values), self.model.record(values))

    def hear(self):
        what, count = self.near(0, 2), len(self.model.sent())
        p, n = self.near(0, count), self.near(0, 7 if what == 2 else self.chance.choice([3, count, 1000]))
        self.add(hear(what, p, n), self.model.hear(what, p, n))

    def line_bytes(self):
        """Frames by mostly rising numbers with some damage in many places, so that every rule of hearing is met."""
        some = []
        number = self.chance.randint(0, 65500)
        for each in range(self.chance.randint(0, 8)):
            number = min(65535, max(0, number + self.chance.choice([-1, 0, 1, 1, 2, 9])))
            length = self.model.length + self.chance.choice([0] * 12 + [-1, 1])
            data = [self.chance.choice([0, 192, 193, 194, self.chance.randint(0, 255)]) for at in range(length)]
            some += sent(frame(number, *data))
        for each in range(self.chance.choice([0, 0, 1, 2, 5])):
            place = self.chance.randint(0, len(some))
            byte = self.chance.choice([0, 1, 2, 3, 192, 193, 194, 194])
            some[place:place + self.chance.randint(0, 2)] = [byte] * self.chance.randint(0, 2)
        return some

    def listen(self):
        some = self.line_bytes()
        if self.chance.random() < 0.03:
            some = self.chance.choice([some + [256], [-1] + some, some + [0] * (801 - len(some))])
        self.add(listen(some), self.model.listen(some))

    def step(self):
        kind = self.chance.random()
        if not self.model.laid or kind < 0.01:
            self.lay()
        elif kind < 0.40:
            self.record()
        elif kind < 0.60:
            self.ask_only()
        elif kind < 0.70:
            k = self.near(0, self.chance.choice([self.model.length + 9, self.model.length + 7, 1000]))
            self.add(cut(k), self.model.cut(k))
        elif kind < 0.84:
            place = self.near(0, self.model.slots - 1), self.near(0, self.model.length + 6), self.near(0, 7)
            self.add(flip(*place), self.model.flip(*place))
        elif kind < 0.90:
            self.add(restart(), self.model.restart())
        else:
            self.add(read(), self.model.read())

    def ask_only(self):
        kind = self.chance.randint(0, 5)
        if kind == 0:
            number = self.near(0, self.model.slots - 1)
            self.add(slot(number), self.model.slot(number))
        elif kind == 1:
            self.add(dump(), self.model.dump())
        elif kind == 2:
            self.hear()
        elif kind == 3:
            self.listen()
        elif kind == 4:
            self.add(next_number(), self.model.next_number())
        else:
            self.add(totals(), self.model.totals())

    def add(self, call, answer):
        self.calls.append(call)
        self.expected.append(answer)


class Walks(unittest.TestCase):
    def test_walks_answer_as_the_model_does(self):
        seen = set()
        for seed in range(150):
            walk = Walk(seed)
            for step in range(400):
                walk.step()
                if sum(len(call) for call in walk.calls) > 16000:
                    break
            given = ask(*walk.calls)
            for call, answer, expected in zip(walk.calls, given, walk.expected):
                self.assertEqual(answer, expected, (seed, call))
                seen.add((call[0], min(answer[0], 2)))
        kinds = {(0, -1), (0, -3), (1, -6), (1, -4), (1, 0), (1, 1), (2, -1), (2, 0), (3, -1), (3, -5), (3, 0),
                 (5, 0), (5, 1), (5, 2), (6, -1), (6, 2), (7, 0), (7, 2), (8, -1), (8, 0), (8, 1), (8, 2),
                 (9, -1), (9, 0), (9, 1), (9, 2), (10, 0), (10, 2), (11, 0), (11, 1), (11, 2)}
        self.assertEqual(kinds - seen, set())


if __name__ == "__main__":
    unittest.main()
