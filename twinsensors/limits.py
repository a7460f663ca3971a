"""A sensor's limits and the alarm that they make."""

NO_ALARM = 0
ALARM_LOW = 1
ALARM_HIGH = 2


class Limits:
    def __init__(self, low, high, back):
        self.low = low
        self.high = high
        self.back = back
        self.below = 0
        self.above = 0
        self.alarm = NO_ALARM

    def watch(self, reading, times):
        """A sample's third step."""
        self.above = min(self.above + 1, times) if reading > self.high else 0
        self.below = min(self.below + 1, times) if reading < self.low else 0
        self.alarm = self.alarm_by(reading, times)

    def alarm_by(self, reading, times):
        if self.above == times:
            return ALARM_HIGH
        if self.below == times:
            return ALARM_LOW
        if self.alarm == ALARM_HIGH and reading <= self.high - self.back:
            return NO_ALARM
        if self.alarm == ALARM_LOW and reading >= self.low + self.back:
            return NO_ALARM
        return self.alarm
