"""The parameters that lay tells, and which of them a frame has."""

MOST_PARAMETERS = 12
WIDEST = 16
PERIODS = (1, 2, 4, 8, 16)
LONGEST_PERIOD = 16


class Parameter:
    def __init__(self, width, period, phase):
        self.width = width
        self.period = period
        self.phase = phase

    def is_in_frame(self, number):
        return number % self.period == self.phase


def threes(numbers):
    return [numbers[start:start + 3] for start in range(0, len(numbers), 3)]


def is_parameter(three):
    return 1 <= three[0] <= WIDEST and three[1] in PERIODS and 0 <= three[2] < three[1]


def are_parameters(numbers):
    if len(numbers) % 3 != 0 or len(numbers) > 3 * MOST_PARAMETERS:
        return False
    return all([is_parameter(three) for three in threes(numbers)])


def parameters_of(numbers):
    return [Parameter(three[0], three[1], three[2]) for three in threes(numbers)]


def frame_parameters(parameters, number):
    return [place for place, parameter in enumerate(parameters) if parameter.is_in_frame(number)]


def frame_widths(parameters, number):
    return [parameters[place].width for place in frame_parameters(parameters, number)]


def widest_frame(parameters):
    # All periods divide the longest one, so the frames behind these have the same parameters again.
    return max([sum(frame_widths(parameters, number)) for number in range(LONGEST_PERIOD)])
