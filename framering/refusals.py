"""The numbers that stand alone as an answer where a call is refused."""

OUT_OF_RANGE = -1
NOTHING_LAID = -2
FRAME_TOO_WIDE = -3
WRONG_VALUES = -4
SLOT_HURT = -5
NUMBERS_USED_UP = -6
