"""A sensor: two channels, what they tell together, and its limits."""

from twinsensors.channel import Channel
from twinsensors.limits import Limits, NO_ALARM

FAULT_UNLIKE = 3

SIDE_LESSER = 0
SIDE_GREATER = 1


class Sensor:
    def __init__(self, settings):
        self.settings = settings
        self.channels = [Channel(settings), Channel(settings)]
        self.unlike = 0
        self.limits = None

    def set_limits(self, low, high, back):
        self.limits = Limits(low, high, back)

    def alarm_now(self):
        if self.limits is None:
            return NO_ALARM
        return self.limits.alarm

    def trusted_values(self):
        """What the trusted channels tell, channel 0's first."""
        return [channel.told_value() for channel in self.channels if channel.is_trusted()]

    def reading_now(self):
        """The reading, or None where there's none."""
        told = self.trusted_values()
        if len(told) == 0:
            return None
        if len(told) == 1:
            return told[0]
        if self.settings.side == SIDE_LESSER:
            return min(told)
        if self.settings.side == SIDE_GREATER:
            return max(told)
        return sum(told) // 2

    def gap_now(self):
        """How far apart the channels are, or None where they aren't both trusted."""
        told = self.trusted_values()
        if len(told) < 2:
            return None
        return abs(told[0] - told[1])

    def sample(self, m, n):
        self.channels[0].take(m)
        self.channels[1].take(n)
        if self.settings.has_in_range(m) and self.settings.has_in_range(n):
            self.compare_channels()
        self.watch_limits()

    def compare_channels(self):
        """A sample's second step, where both counts were in range."""
        gap = self.gap_now()
        if gap is None:
            return
        if gap <= self.settings.tolerance:
            self.unlike = 0
            return
        self.unlike = min(self.unlike + 1, self.settings.times)
        if self.unlike == self.settings.times:
            self.latch_both(FAULT_UNLIKE)
            self.unlike = 0

    def latch_both(self, fault):
        for channel in self.channels:
            channel.latch(fault)

    def watch_limits(self):
        if self.limits is None:
            return
        reading = self.reading_now()
        if reading is not None:
            self.limits.watch(reading, self.settings.times)

    def judge_channels(self, known):
        for channel in self.channels:
            channel.judge(known)
        self.unlike = 0

    def forget_counts(self):
        for channel in self.channels:
            channel.forget()
        self.unlike = 0
