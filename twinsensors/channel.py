"""One channel of a sensor: its counts, its correction and its fault."""

from twinsensors.middle import middle_one
from twinsensors.ranges import LAST_COUNT
from twinsensors.ratio import added, divided, is_below, multiplied, rounded_down, subtracted, whole
from twinsensors.refusals import CORRECTION_TOO_LARGE, COUNTS_DO_NOT_RISE, VALUES_DO_NOT_RISE
from twinsensors.table import table_value

NO_FAULT = 0
FAULT_OUT_OF_RANGE = 1
FAULT_STUCK = 2
FAULT_WRONG = 4

MOST_ALIKE = 1000
CORRECTION_BOUND = 1000000000000

DONE = 1


def is_too_large(fraction):
    return abs(fraction[0]) >= CORRECTION_BOUND or fraction[1] >= CORRECTION_BOUND


class Channel:
    def __init__(self, settings):
        self.settings = settings
        self.gain = whole(1)
        self.offset = whole(0)
        self.window = []
        self.alike = 0
        self.out = 0
        self.fault = NO_FAULT

    def value_by(self, gain, offset, count):
        return added(multiplied(gain, table_value(self.settings.points, count)), offset)

    def exact_value(self, count):
        return self.value_by(self.gain, self.offset, count)

    def whole_value(self, count):
        return rounded_down(self.exact_value(count))

    def tells(self):
        return len(self.window) > 0

    def told_value(self):
        """What the channel tells; its window isn't empty."""
        return self.whole_value(middle_one(self.window))

    def is_trusted(self):
        return self.tells() and self.fault == NO_FAULT

    def latch(self, fault):
        if self.fault == NO_FAULT:
            self.fault = fault

    def take(self, count):
        """A sample's first step."""
        if self.settings.has_in_range(count):
            self.take_in_range(count)
        else:
            self.take_out_of_range()

    def take_out_of_range(self):
        self.out = min(self.out + 1, self.settings.times)
        if self.out == self.settings.times:
            self.latch(FAULT_OUT_OF_RANGE)

    def take_in_range(self, count):
        if self.tells() and self.window[0] == count:
            self.alike = min(self.alike + 1, MOST_ALIKE)
        else:
            self.alike = 1
        kept = [count] + self.window
        self.window = kept[:self.settings.width]
        self.out = 0
        if self.is_stuck():
            self.latch(FAULT_STUCK)

    def is_stuck(self):
        return self.settings.stuck > 0 and self.alike >= self.settings.stuck

    def is_good(self, known):
        """Whether a known value shows the channel to be right, whatever its fault."""
        if not self.tells() or self.out != 0 or self.is_stuck():
            return False
        return abs(self.told_value() - known) <= self.settings.tolerance

    def judge(self, known):
        if self.is_good(known):
            self.fault = NO_FAULT
        else:
            self.latch(FAULT_WRONG)

    def forget(self):
        self.window = []
        self.alike = 0
        self.out = 0

    def correct(self, c1, v1, c2, v2):
        """Put a correction on top so that c1 has the value v1 and c2 has v2, or refuse."""
        x1 = self.exact_value(c1)
        x2 = self.exact_value(c2)
        if not is_below(x1, x2):
            return COUNTS_DO_NOT_RISE
        if v1 >= v2:
            return VALUES_DO_NOT_RISE
        factor = divided(whole(v2 - v1), subtracted(x2, x1))
        gain = multiplied(factor, self.gain)
        offset = added(multiplied(factor, subtracted(self.offset, x1)), whole(v1))
        if not self.can_have(gain, offset):
            return CORRECTION_TOO_LARGE
        self.gain = gain
        self.offset = offset
        return DONE

    def can_have(self, gain, offset):
        if is_too_large(gain) or is_too_large(offset):
            return False
        for count in (0, LAST_COUNT):
            if abs(rounded_down(self.value_by(gain, offset, count))) > CORRECTION_BOUND:
                return False
        return True

    def least_reaching(self, first, beyond, wanted):
        """The least count from first on whose value is wanted or more; beyond where none before it is."""
        # The table rises and the gain stays above 0, so that a greater count never has a lesser value.
        low = first
        high = beyond
        while low < high:
            half = (low + high) // 2
            if self.whole_value(half) >= wanted:
                high = half
            else:
                low = half + 1
        return low
