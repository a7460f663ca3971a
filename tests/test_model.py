"""The program beside a second telling of the document, over many made-up lines of calls."""

import random
import unittest
from fractions import Fraction
from math import floor

from tests.helper import *
from twinsensors.panel import answers

BILLION = 10 ** 9
LINES = 400


class Refused(Exception):
    pass


def need(good, refusal=-1):
    if not good:
        raise Refused(refusal)


def count_in(*numbers):
    need(all(0 <= number <= 65535 for number in numbers))


def value_in(*numbers):
    need(all(-BILLION <= number <= BILLION for number in numbers))


def middle(numbers):
    numbers = sorted(numbers)
    while len(numbers) > 2:
        numbers = numbers[1:-1]
    return numbers[0]


class Model:
    """A line's sensors as dicts; each call's method is handed its numbers as they stand."""

    shapes = "sensor:7p limits:4 feed:3 feeds:1p reading:1 exact:3 value:3 correct:6 drift:2 reference:2 least:5 " \
             "middle:0n line:0p state:1 clear:1 count:0 gap:1".split()

    def __init__(self):
        self.all = []

    def answer(self, call):
        try:
            return self.taken(call)
        except Refused as refused:
            return [refused.args[0]]

    def taken(self, call):
        need(call and 0 <= call[0] <= 16, -100)
        name, shape = self.shapes[call[0]].split(":")
        plain, rest = call[1:1 + int(shape[0])], call[1 + int(shape[0]):]
        need(len(plain) == int(shape[0]), -100)
        if shape[1:]:
            need(rest and rest[0] >= 0 and len(rest) - 1 == rest[0] * (2 if shape[1] == "p" else 1), -100)
            things = rest[1:]
            plain.append(list(zip(things[::2], things[1::2])) if shape[1] == "p" else things)
        else:
            need(not rest, -100)
        return getattr(self, name)(*plain)

    def at(self, s, ch=0):
        need(s in range(len(self.all)) and ch in (0, 1))
        return self.all[s]

    def sensor(self, width, tolerance, times, stuck, side, lo, hi, points):
        need(width in (1, 3, 5) and 0 <= tolerance <= BILLION and 1 <= times <= 100 and 0 <= stuck <= 1000)
        need(stuck != 1 and side in (0, 1, 2) and 0 <= lo <= hi <= 65535 and 2 <= len(points) <= 8)
        for c, v in points:
            count_in(c)
            value_in(v)
        need(len(self.all) < 16, -2)
        need(all(c < d and v < w for (c, v), (d, w) in zip(points, points[1:])), -3)
        blank = [dict(gain=Fraction(1), offset=Fraction(0), window=[], alike=0, out=0, fault=0) for ch in (0, 1)]
        self.all.append(dict(width=width, tolerance=tolerance, times=times, stuck=stuck, side=side, lo=lo, hi=hi,
                             points=points, ch=blank, unlike=0, limits=None))
        return [len(self.all) - 1]

    def limits(self, s, low, high, back):
        x = self.at(s)
        value_in(low, high)
        need(low <= high and 0 <= back <= high - low)
        x["limits"] = dict(low=low, high=high, back=back, below=0, above=0, alarm=0)
        return [1]

    def put(self, x, gain, offset, count):
        points = x["points"]
        clamped = min(max(count, points[0][0]), points[-1][0])
        for (c, v), (d, w) in zip(points, points[1:]):
            if c <= clamped <= d:
                return gain * (v + Fraction((clamped - c) * (w - v), d - c)) + offset

    def exactly(self, x, ch, count):
        return self.put(x, x["ch"][ch]["gain"], x["ch"][ch]["offset"], count)

    def tells(self, x, ch):
        window = x["ch"][ch]["window"]
        return floor(self.exactly(x, ch, middle(window))) if window else None

    def trusted(self, x):
        return [self.tells(x, ch) for ch in (0, 1) if x["ch"][ch]["window"] and x["ch"][ch]["fault"] == 0]

    def reading_of(self, x):
        told = self.trusted(x)
        if len(told) == 2:
            return [min(told), max(told), floor(Fraction(sum(told), 2))][x["side"]]
        return told[0] if told else None

    def latch(self, channel, fault):
        channel["fault"] = channel["fault"] or fault

    def sample(self, x, pair):
        for channel, count in zip(x["ch"], pair):
            if not x["lo"] <= count <= x["hi"]:
                channel["out"] += channel["out"] < x["times"]
                if channel["out"] == x["times"]:
                    self.latch(channel, 1)
                continue
            same = channel["window"][:1] == [count]
            channel["alike"] = min(channel["alike"] + 1, 1000) if same else 1
            channel["window"] = ([count] + channel["window"])[:x["width"]]
            channel["out"] = 0
            if x["stuck"] and channel["alike"] >= x["stuck"]:
                self.latch(channel, 2)
        told = self.trusted(x)
        if len(told) == 2 and all(x["lo"] <= count <= x["hi"] for count in pair):
            x["unlike"] = min(x["unlike"] + 1, x["times"]) if abs(told[0] - told[1]) > x["tolerance"] else 0
            if x["unlike"] == x["times"]:
                self.latch(x["ch"][0], 3)
                self.latch(x["ch"][1], 3)
                x["unlike"] = 0
        self.watch(x, x["limits"], self.reading_of(x))

    def watch(self, x, limits, v):
        if limits is None or v is None:
            return
        limits["above"] = min(limits["above"] + 1, x["times"]) if v > limits["high"] else 0
        limits["below"] = min(limits["below"] + 1, x["times"]) if v < limits["low"] else 0
        if limits["above"] == x["times"]:
            limits["alarm"] = 2
        elif limits["below"] == x["times"]:
            limits["alarm"] = 1
        elif limits["alarm"] == 2 and v <= limits["high"] - limits["back"]:
            limits["alarm"] = 0
        elif limits["alarm"] == 1 and v >= limits["low"] + limits["back"]:
            limits["alarm"] = 0

    def feed(self, s, m, n):
        return self.feeds(s, [(m, n)])

    def feeds(self, s, pairs):
        x = self.at(s)
        need(len(pairs) <= 100)
        for pair in pairs:
            count_in(*pair)
        for pair in pairs:
            self.sample(x, pair)
        return self.reading(s)

    def reading(self, s):
        x = self.at(s)
        v = self.reading_of(x)
        alarm = x["limits"]["alarm"] if x["limits"] else 0
        return [x["ch"][0]["fault"], x["ch"][1]["fault"], alarm] + ([0, 0] if v is None else [1, v])

    def exact(self, s, ch, n):
        x = self.at(s, ch)
        count_in(n)
        return text(str(self.exactly(x, ch, n)))

    def value(self, s, ch, n):
        x = self.at(s, ch)
        count_in(n)
        return [0, floor(self.exactly(x, ch, n))]

    def correct(self, s, ch, c1, v1, c2, v2):
        x = self.at(s, ch)
        count_in(c1, c2)
        value_in(v1, v2)
        channel = x["ch"][ch]
        x1, x2 = self.exactly(x, ch, c1), self.exactly(x, ch, c2)
        need(x1 < x2, -4)
        need(v1 < v2, -5)
        h = (v2 - v1) / (x2 - x1)
        gain, offset = h * channel["gain"], h * (channel["offset"] - x1) + v1
        for number in (gain, offset):
            need(max(abs(number.numerator), number.denominator) < 10 ** 12, -6)
        for count in (0, 65535):
            need(-10 ** 12 <= floor(self.put(x, gain, offset, count)) <= 10 ** 12, -6)
        channel.update(gain=gain, offset=offset)
        return [1]

    def drift(self, s, ch):
        channel = self.at(s, ch)["ch"][ch]
        return text(str(channel["gain"])) + text(str(channel["offset"]))

    def reference(self, s, v):
        x = self.at(s)
        value_in(v)
        for ch, channel in enumerate(x["ch"]):
            told = self.tells(x, ch)
            if (told is not None and abs(told - v) <= x["tolerance"] and channel["out"] == 0
                    and (x["stuck"] == 0 or channel["alike"] < x["stuck"])):
                channel["fault"] = 0
            else:
                self.latch(channel, 4)
        x["unlike"] = 0
        return [sum(bit for bit, channel in zip((1, 2), x["ch"]) if channel["fault"] == 0)]

    def least(self, s, ch, n, k, v):
        x = self.at(s, ch)
        count_in(n)
        need(1 <= k <= 1000 and n + k <= 65536 and abs(v) <= 10 ** 12)
        for count in range(n, n + k):
            if floor(self.exactly(x, ch, count)) >= v:
                return [count + 1]
        return [0]

    def middle(self, numbers):
        need(1 <= len(numbers) <= 16)
        value_in(*numbers)
        return [0, middle(numbers)]

    def line(self, points):
        need(2 <= len(points) <= 16)
        for c, v in points:
            count_in(c)
            value_in(v)
        need(len({c for c, v in points}) > 1, -7)
        mean_c = Fraction(sum(c for c, v in points), len(points))
        mean_v = Fraction(sum(v for c, v in points), len(points))
        slope = sum((c - mean_c) * (v - mean_v) for c, v in points) / sum((c - mean_c) ** 2 for c, v in points)
        return text(str(slope)) + text(str(mean_v - slope * mean_c))

    def state(self, s):
        x = self.at(s)
        told = []
        for channel in x["ch"]:
            told += [channel["fault"], channel["out"], channel["alike"], len(channel["window"])] + channel["window"]
        limits = x["limits"]
        return told + [x["unlike"]] + ([1] + list(limits.values()) if limits else [0] * 7)

    def clear(self, s):
        x = self.at(s)
        for channel in x["ch"]:
            channel.update(window=[], alike=0, out=0)
        x["unlike"] = 0
        return [1]

    def count(self):
        return [len(self.all)]

    def gap(self, s):
        told = self.trusted(self.at(s))
        return [1, abs(told[0] - told[1])] if len(told) == 2 else [0, 0]


class Maker:
    """Calls that mostly are taken, and mostly near one another so that faults and alarms come and go."""

    def __init__(self, seed):
        self.pick = random.Random(seed)
        self.near = self.pick.choice([3, 10, 60, 65535])
        self.spread = self.pick.choice([5, 100, BILLION])

    def some(self, low, high):
        return self.pick.randint(low, high)

    def count(self):
        if self.some(1, 60) == 1:
            return self.pick.choice([-1, 65536, 65535, 0])
        return self.some(0, self.near)

    def value(self):
        if self.some(1, 60) == 1:
            return self.pick.choice([-BILLION - 1, BILLION + 1, BILLION, -BILLION])
        return self.some(-self.spread, self.spread)

    def points(self):
        many = self.some(2, 8 if self.near > 8 else 4)
        counts = sorted(self.pick.sample(range(self.near + 1), many))
        values = sorted(self.pick.sample(range(-self.spread, self.spread + 1), many))
        pairs = list(zip(counts, values))
        if self.some(1, 20) == 1:
            self.pick.shuffle(pairs)
        return pairs

    def s(self):
        return self.pick.choice([0, 0, 0, 0, 0, 1, 1, 1, 2, -1]) if self.some(1, 4) == 1 else 0

    def ch(self):
        return self.some(0, 1) if self.some(1, 40) > 1 else self.pick.choice([-1, 2])

    def pair(self):
        m = self.count()
        return m, m if self.some(0, 1) else self.count()

    def sensor_call(self):
        lo = self.some(0, self.near // 4)
        return sensor(self.pick.choice([1, 3, 5]), self.some(0, self.spread), self.some(1, 4),
                      self.pick.choice([0, 0, 2, 3, 5]), self.some(0, 2), lo, self.some(max(lo, self.near // 2), 65535),
                      self.points())

    def limits_call(self):
        low, high = sorted((self.value(), self.value()))
        return [LIMITS, self.s(), low, high, self.some(0, high - low)]

    def least_call(self):
        n = self.count()
        return [LEAST, self.s(), self.ch(), n, self.some(1, min(1000, max(1, 65537 - n))), self.value()]

    def call(self):
        made = self.pick.choice([
            self.sensor_call,
            self.limits_call, self.limits_call,
            lambda: [FEED, self.s(), *self.pair()],
            lambda: [FEED, self.s(), *self.pair()],
            lambda: feeds(self.s(), *[self.pair() for k in range(self.some(0, 6))]),
            lambda: feeds(self.s(), *[self.pair() for k in range(self.some(0, 6))]),
            lambda: feeds(self.s(), *[self.pair()] * self.some(0, 6)),
            lambda: [READING, self.s()],
            lambda: [EXACT, self.s(), self.ch(), self.count()],
            lambda: [VALUE, self.s(), self.ch(), self.count()],
            lambda: [CORRECT, self.s(), self.ch(), self.count(), self.value(), self.count(), self.value()],
            lambda: [DRIFT, self.s(), self.ch()],
            lambda: [REFERENCE, self.s(), self.value()],
            lambda: [REFERENCE, self.s(), self.value()],
            self.least_call,
            lambda: [MIDDLE] + listed([self.value() for k in range(self.some(1, 16))]),
            lambda: [LINE] + listed([self.pair() for k in range(self.some(2, 16))]),
            lambda: [STATE, self.s()], lambda: [STATE, self.s()],
            lambda: [CLEAR, self.s()],
            lambda: [COUNT],
            lambda: [GAP, self.s()],
        ])()
        if self.some(1, 40) == 1:
            made = made[:-1] if self.some(0, 1) else made + [self.some(-3, 3)]
        if made and self.some(1, 40) == 1:
            made[self.pick.randrange(len(made))] = self.pick.choice([-1, 0, 1, 2, 3, 10 ** 18, -10 ** 18])
        return made


class Beside(unittest.TestCase):
    def test_many_lines(self):
        seen = set()
        for seed in range(LINES):
            maker = Maker(seed)
            calls = [maker.sensor_call()]
            while len(calls) < 120:
                calls.append(maker.call())
                calls.append([STATE, 0])
            model = Model()
            told = apart(answers(flat(calls)))
            for k, call in enumerate(calls):
                wanted = model.answer(list(call))
                self.assertEqual(told[k], wanted, (seed, k, call))
                seen.add((call[0] if call else None, wanted[0] if wanted[0] < 0 else 1))
        for place in range(17):
            self.assertIn((place, 1), seen)
        for refused in ((SENSOR, -3), (CORRECT, -4), (CORRECT, -5), (CORRECT, -6), (LINE, -7), (FEED, -1), (FEED, -100)):
            self.assertIn(refused, seen)


if __name__ == "__main__":
    unittest.main()
