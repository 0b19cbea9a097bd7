"""Long mixed lists of calls, beside a model that knows no bytes.

The model keeps of each slot only which frame was last recorded whole in it and not spoilt since. One flipped bit
always spoils a good slot and never makes one good, and a hurt slot is not flipped again, so that is enough.
"""

import random
import unittest

from tests.helper import ask, cut, flip, lay_row, read, record, restart, told


class Model:
    def __init__(self):
        self.laid = False

    def lay(self, slots, length, first, row):
        threes = [row[at:at + 3] for at in range(0, len(row), 3)]
        if not (2 <= slots <= 16 and 1 <= length <= 16 and 0 <= first <= 65535) or len(row) % 3 or len(threes) > 12:
            return [-1]
        for width, period, phase in threes:
            if not 1 <= width <= 16 or period not in (1, 2, 4, 8, 16) or not 0 <= phase < period:
                return [-1]
        for number in range(65536 - 16, 65536):
            if sum(width for width, period, phase in threes if number % period == phase) > 8 * length:
                return [-3]
        self.laid = True
        self.slots, self.length, self.first, self.threes = slots, length, first, threes
        self.number, self.cut_at, self.good, self.hurt = first, None, {}, set()
        return [length + 7]

    def found(self):
        return 1 + max((number for number, values in self.good.values()), default=self.first - 1)

    def widths(self):
        return [width for width, period, phase in self.threes if self.number % period == phase]

    def record(self, values):
        if self.number > 65535:
            return [-6]
        widths = self.widths()
        if len(values) != len(widths) or any(not 0 <= v < 2 ** w for v, w in zip(values, widths)):
            return [-4]
        slot, number, written = self.number % self.slots, self.number, self.length + 8
        if self.cut_at is not None:
            written = min(written, self.cut_at)
        self.cut_at = None
        if written:
            self.hurt.discard(slot)
            self.good.pop(slot, None)
        if written < self.length + 8:
            self.number = self.found()
            return [0, number]
        self.good[slot] = (number, values)
        self.number += 1
        return [1, number]

    def cut(self, k):
        if not 0 <= k <= 1000:
            return [-1]
        self.cut_at = k
        return [0]

    def flip(self, slot, byte, bit):
        if slot not in range(self.slots) or byte not in range(self.length + 7) or bit not in range(8):
            return [-1]
        if slot in self.hurt:
            return [-5]
        self.hurt.add(slot)
        self.good.pop(slot, None)
        return [0]

    def restart(self):
        self.number, self.cut_at = self.found(), None
        return [self.number]

    def read(self):
        frames = sorted(self.good.values())
        before = [frames[0][0] - 1] + [number for number, values in frames] if frames else []
        return told(*[(number, number - earlier - 1, values)
                      for earlier, (number, values) in zip(before, frames)])


class Walk:
    """Makes up calls one by one, most of them not refused, and asks the model alongside."""

    def __init__(self, seed):
        self.chance = random.Random(seed)
        self.model = Model()
        self.calls = []
        self.expected = []

    def near(self, low, high):
        if self.chance.random() < 0.03:
            return self.chance.choice([low - 1, high + 1, -10 ** 18, 10 ** 18])
        return self.chance.choice([low, high, self.chance.randint(low, high)])

    def parameters(self, length):
        row = []
        for each in range(self.chance.randint(0, self.chance.choice([2, 5, 13]))):
            period = self.chance.choice([1, 2, 4, 8, 16])
            row += [self.near(1, min(16, 3 * length)), period, self.near(0, period - 1)]
        return row + [1] * (self.chance.random() < 0.02)

    def lay(self):
        slots, length = self.near(2, 16), self.near(1, 16)
        first = self.chance.choice([self.near(0, 65535), self.chance.randint(65500, 65535)])
        row = self.parameters(length if 1 <= length <= 16 else 1)
        self.add(lay_row(slots, length, first, row), self.model.lay(slots, length, first, row))

    def record(self):
        values = [self.near(0, 2 ** width - 1) for width in self.model.widths()]
        if self.chance.random() < 0.03:
            values = values[1:] if values and self.chance.random() < 0.5 else values + [0]
        self.add(record(*values), self.model.record(values))

    def step(self):
        kind = self.chance.random()
        if not self.model.laid or kind < 0.01:
            self.lay()
        elif kind < 0.55:
            self.record()
        elif kind < 0.70:
            k = self.near(0, self.chance.choice([self.model.length + 9, self.model.length + 7, 1000]))
            self.add(cut(k), self.model.cut(k))
        elif kind < 0.84:
            place = self.near(0, self.model.slots - 1), self.near(0, self.model.length + 6), self.near(0, 7)
            self.add(flip(*place), self.model.flip(*place))
        elif kind < 0.90:
            self.add(restart(), self.model.restart())
        else:
            self.add(read(), self.model.read())

    def add(self, call, answer):
        self.calls.append(call)
        self.expected.append(answer)


class Walks(unittest.TestCase):
    def test_walks_answer_as_the_model_does(self):
        seen = set()
        for seed in range(150):
            walk = Walk(seed)
            for step in range(400):
                walk.step()
            given = ask(*walk.calls)
            for call, answer, expected in zip(walk.calls, given, walk.expected):
                self.assertEqual(answer, expected, (seed, call))
                seen.add((call[0], min(answer[0], 2)))
        kinds = {(0, -1), (0, -3), (1, -6), (1, -4), (1, 0), (1, 1), (2, -1), (2, 0), (3, -1), (3, -5), (3, 0),
                 (5, 0), (5, 1), (5, 2)}
        self.assertEqual(kinds - seen, set())


if __name__ == "__main__":
    unittest.main()
