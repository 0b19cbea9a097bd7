"""The recorder, and the answers to a list of calls on a new one."""

from framering.frames import frame_bytes, frame_number, frame_values, frames_told, values_fit
from framering.line import damaged, heard_frames, is_damage, sent_frames
from framering.parameters import are_parameters, frame_parameters, frame_widths, parameters_of, widest_frame
from framering.refusals import (
    FRAME_TOO_WIDE, NOTHING_LAID, NUMBERS_USED_UP, OUT_OF_RANGE, SLOT_HURT, WRONG_VALUES)
from framering.ring import Ring

LAST_NUMBER = 65535
MOST_HEARD = 800

LAY = 0
RECORD = 1
CUT = 2
FLIP = 3
RESTART = 4
READ = 5
SLOT = 6
DUMP = 7
HEAR = 8
LISTEN = 9
NEXT_NUMBER = 10

# By a call's number: how many whole numbers it has, and whether a row stands behind them.
NUMBER_COUNTS = (3, 0, 1, 3, 0, 0, 1, 0, 3, 0, 0, 0)
HAS_ROW = (True, True, False, False, False, False, False, False, False, True, False, False)


class Recorder:
    def __init__(self, slots, length, first, parameters):
        self.ring = Ring(slots, length)
        self.length = length
        self.first = first
        self.parameters = parameters
        self.upcoming = first
        self.cut_after = None
        self.frames_recorded = 0
        self.powers_lost = 0
        self.bits_flipped = 0

    def record(self, samples):
        number = self.upcoming
        if number > LAST_NUMBER:
            return [NUMBERS_USED_UP]
        widths = frame_widths(self.parameters, number)
        if not values_fit(widths, samples):
            return [WRONG_VALUES]
        frame = frame_bytes(number, widths, samples, self.length)
        recorded = self.ring.write_frame(number, frame, self.cut_after)
        self.cut_after = None
        if recorded:
            self.upcoming = number + 1
            self.frames_recorded += 1
            return [1, number]
        self.upcoming = self.found()
        self.powers_lost += 1
        return [0, number]

    def found(self):
        frames = self.ring.good_frames()
        return frame_number(frames[-1]) + 1 if frames else self.first

    def cut(self, limit):
        if not 0 <= limit <= 1000:
            return [OUT_OF_RANGE]
        self.cut_after = limit
        return [0]

    def flip(self, slot, place, bit):
        if not (0 <= slot < self.ring.size and 0 <= place <= self.length + 6 and 0 <= bit <= 7):
            return [OUT_OF_RANGE]
        if self.ring.hurt[slot]:
            return [SLOT_HURT]
        self.ring.flip_bit(slot, place, bit)
        self.bits_flipped += 1
        return [0]

    def restart(self):
        self.upcoming = self.found()
        self.cut_after = None
        return [self.upcoming]

    def read_out(self):
        return self.told(self.ring.good_frames())

    def slot_bytes(self, slot):
        if not 0 <= slot < self.ring.size:
            return [OUT_OF_RANGE]
        return [self.length + 7] + self.ring.slots[slot]

    def dump(self):
        sent = sent_frames(self.ring.good_frames())
        return [len(sent)] + sent

    def hear(self, what, place, amount):
        sent = sent_frames(self.ring.good_frames())
        if not is_damage(what, place, amount, len(sent)):
            return [OUT_OF_RANGE]
        return self.told(heard_frames(damaged(sent, what, place, amount), self.length))

    def listen(self, some):
        if len(some) > MOST_HEARD or not all([0 <= byte <= 255 for byte in some]):
            return [OUT_OF_RANGE]
        return self.told(heard_frames(some, self.length))

    def next_number(self):
        places = frame_parameters(self.parameters, self.upcoming)
        return [self.upcoming, len(places)] + places

    def totals(self):
        good = len(self.ring.good_frames())
        return [self.frames_recorded, self.powers_lost, self.bits_flipped, good]

    def told(self, frames):
        return frames_told([self.told_frame(frame) for frame in frames])

    def told_frame(self, frame):
        number = frame_number(frame)
        widths = frame_widths(self.parameters, number)
        return (number, frame_values(frame, widths, self.length))


class CallLine:
    def __init__(self):
        self.recorder = None

    def answer(self, call, numbers, row):
        if call == LAY:
            return self.lay(numbers[0], numbers[1], numbers[2], row)
        if self.recorder is None:
            return [NOTHING_LAID]
        return recorder_answer(self.recorder, call, numbers, row)

    def lay(self, slots, length, first, row):
        in_range = 2 <= slots <= 16 and 1 <= length <= 16 and 0 <= first <= LAST_NUMBER
        if not in_range or not are_parameters(row):
            return [OUT_OF_RANGE]
        parameters = parameters_of(row)
        if widest_frame(parameters) > 8 * length:
            return [FRAME_TOO_WIDE]
        self.recorder = Recorder(slots, length, first, parameters)
        return [length + 7]


def recorder_answer(recorder, call, numbers, row):
    if call == RECORD:
        return recorder.record(row)
    if call == CUT:
        return recorder.cut(numbers[0])
    if call == FLIP:
        return recorder.flip(numbers[0], numbers[1], numbers[2])
    if call == RESTART:
        return recorder.restart()
    return asked_answer(recorder, call, numbers, row)


def asked_answer(recorder, call, numbers, row):
    if call == READ:
        return recorder.read_out()
    if call == SLOT:
        return recorder.slot_bytes(numbers[0])
    if call == DUMP:
        return recorder.dump()
    if call == HEAR:
        return recorder.hear(numbers[0], numbers[1], numbers[2])
    if call == LISTEN:
        return recorder.listen(row)
    if call == NEXT_NUMBER:
        return recorder.next_number()
    return recorder.totals()


def answers(calls):
    call_line = CallLine()
    given = []
    place = 0
    while place < len(calls):
        call = calls[place]
        row_place = place + 1 + NUMBER_COUNTS[call]
        numbers = calls[place + 1:row_place]
        row = []
        place = row_place
        if HAS_ROW[call]:
            place = row_place + 1 + calls[row_place]
            row = calls[row_place + 1:place]
        answer = call_line.answer(call, numbers, row)
        given.append(len(answer))
        given.extend(answer)
    return given
