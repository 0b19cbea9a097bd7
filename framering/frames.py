"""A frame's bytes, what is read from them, and how frames are told."""

# Two bytes of the number ahead of the values; two of the sum and two of the number behind them.
HEAD = 2
TAIL = 4


def two_bytes(number):
    return [number // 256, number % 256]


def sum_bytes(head):
    return two_bytes(sum(head) % 65536)


def values_fit(widths, samples):
    if len(samples) != len(widths):
        return False
    return all([0 <= sample < (1 << width) for width, sample in zip(widths, samples)])


def packed(widths, samples, length):
    bits = 0
    for width, sample in zip(widths, samples):
        bits = (bits << width) | sample
    bits = bits << (8 * length - sum(widths))
    return [(bits >> (8 * behind)) & 255 for behind in range(length - 1, -1, -1)]


def unpacked(widths, data):
    bits = 0
    for byte in data:
        bits = (bits << 8) | byte
    samples = []
    behind = 8 * len(data)
    for width in widths:
        behind -= width
        samples.append((bits >> behind) & ((1 << width) - 1))
    return samples


def frame_bytes(number, widths, samples, length):
    head = two_bytes(number) + packed(widths, samples, length)
    return head + sum_bytes(head) + two_bytes(number)


def is_right_frame(frame, length):
    if len(frame) != HEAD + length + TAIL:
        return False
    head = frame[:HEAD + length]
    return frame[HEAD + length:] == sum_bytes(head) + frame[:HEAD]


def frame_number(frame):
    return frame[0] * 256 + frame[1]


def frame_values(frame, widths, length):
    return unpacked(widths, frame[HEAD:HEAD + length])


def frames_told(frames):
    told = [len(frames)]
    expected = None
    for number, samples in frames:
        missing = 0 if expected is None else number - expected
        told.extend([number, missing, len(samples)])
        told.extend(samples)
        expected = number + 1
    return told
