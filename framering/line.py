"""The line: what is sent over it, what damage it does, and what is heard at its other end."""

from framering.frames import frame_number, is_right_frame

BEGIN = 192
END = 193
ESCAPE = 194

LOST = 0
DOUBLED = 1
FLIPPED = 2


def sent_byte(byte):
    # A frame's own bytes must never look like its begin or end.
    return [ESCAPE, byte - BEGIN] if BEGIN <= byte <= ESCAPE else [byte]


def sent_frames(frames):
    sent = []
    for frame in frames:
        sent.append(BEGIN)
        for byte in frame:
            sent.extend(sent_byte(byte))
        sent.append(END)
    return sent


def is_damage(what, place, amount, sent_count):
    if what == FLIPPED:
        return 0 <= place < sent_count and 0 <= amount <= 7
    return what in (LOST, DOUBLED) and 0 <= place <= sent_count and 0 <= amount <= 1000


def damaged(sent, what, place, amount):
    if what == LOST:
        return sent[:place] + sent[place + amount:]
    if what == DOUBLED:
        return sent[:place + amount] + sent[place:]
    return sent[:place] + [sent[place] ^ (1 << amount)] + sent[place + 1:]


class Ear:
    def __init__(self, length):
        self.length = length
        self.heard = []
        # The bytes of the frame that has begun. A spoilt frame is never told, so it counts as one that has not begun.
        self.begun = None
        self.waits = False

    def take(self, byte):
        if byte == BEGIN:
            self.begun = []
            self.waits = False
        elif byte == END:
            self.end_frame()
        elif self.begun is not None:
            self.take_inside(byte)

    def take_inside(self, byte):
        if self.waits:
            self.waits = False
            self.take_escaped(byte)
        elif byte == ESCAPE:
            self.waits = True
        else:
            self.begun.append(byte)

    def take_escaped(self, byte):
        if byte <= ESCAPE - BEGIN:
            self.begun.append(BEGIN + byte)
        else:
            self.begun = None

    def end_frame(self):
        if self.begun is not None and not self.waits and self.is_told(self.begun):
            self.heard.append(self.begun)
        self.begun = None

    def is_told(self, frame):
        if not is_right_frame(frame, self.length):
            return False
        return not self.heard or frame_number(frame) > frame_number(self.heard[-1])


def heard_frames(some, length):
    ear = Ear(length)
    for byte in some:
        ear.take(byte)
    return ear.heard
