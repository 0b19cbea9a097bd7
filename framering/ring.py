"""The ring of slots: what is written into it, what is hurt, and which frames are good."""

from framering.frames import frame_number, is_right_frame

DONE = 165


class Ring:
    def __init__(self, size, length):
        self.size = size
        self.length = length
        self.slots = [[0] * (length + 7) for slot in range(size)]
        self.hurt = [False] * size

    def write_frame(self, number, frame, limit):
        slot = number % self.size
        # Done is taken away first and given last, so power lost behind any byte leaves no half frame good.
        steps = [(0, 0)] + list(enumerate(frame, start=1)) + [(0, DONE)]
        written = steps if limit is None else steps[:limit]
        for place, byte in written:
            self.slots[slot][place] = byte
        if len(written) > 0:
            self.hurt[slot] = False
        return len(written) == len(steps)

    def flip_bit(self, slot, place, bit):
        self.slots[slot][place] = self.slots[slot][place] ^ (1 << bit)
        self.hurt[slot] = True

    def is_good(self, slot):
        frame = self.frame_in(slot)
        if self.slots[slot][0] != DONE or not is_right_frame(frame, self.length):
            return False
        return frame_number(frame) % self.size == slot

    def frame_in(self, slot):
        return self.slots[slot][1:]

    def good_frames(self):
        frames = [self.frame_in(slot) for slot in range(self.size) if self.is_good(slot)]
        return sorted(frames, key=frame_number)
