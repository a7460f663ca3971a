"""Promises 1, 2, 14 and 16: sensor, limits, state, count."""

import unittest

from tests.helper import *

FRESH_CHANNEL = [0, 0, 0, 0]
NO_LIMITS = [0] * 7
FRESH = FRESH_CHANNEL * 2 + [0] + NO_LIMITS
BILLION = 10 ** 9


class Sensor(unittest.TestCase):
    def test_they_are_numbered_in_order(self):
        self.assertEqual(run(sensor(), sensor(width=5), sensor(width=3), [COUNT]), [[0], [1], [2], [3]])

    def test_a_new_one(self):
        answered = run(sensor(), [STATE, 0], [DRIFT, 0, 0], [DRIFT, 0, 1], [READING, 0], [GAP, 0])
        self.assertEqual(answered[1:], [FRESH] + [text("1") + text("0")] * 2 + [[0, 0, 0, 0, 0], [0, 0]])

    def test_the_16th_and_the_17th(self):
        answered = run(*[sensor()] * 17, [COUNT], [STATE, 15], [STATE, 16])
        self.assertEqual(answered, [[k] for k in range(16)] + [[-2], [16], FRESH, [-1]])

    def test_the_ends_of_each_range(self):
        taken = (
            dict(width=1), dict(width=3), dict(width=5), dict(tolerance=0), dict(tolerance=BILLION),
            dict(times=1), dict(times=100), dict(stuck=0), dict(stuck=2), dict(stuck=1000),
            dict(side=0), dict(side=1), dict(side=2), dict(lo=0, hi=0), dict(lo=65535, hi=65535),
            dict(lo=0, hi=65535), dict(lo=7, hi=7), dict(points=((0, -BILLION), (65535, BILLION))),
            dict(points=[(k, k) for k in range(8)]), dict(points=((5, 5), (6, 6))),
        )
        for named in taken:
            self.assertEqual(run(sensor(**named), [COUNT]), [[0], [1]], named)

    def test_each_range_broken(self):
        refused = (
            dict(width=0), dict(width=2), dict(width=4), dict(width=6), dict(width=-1), dict(width=7),
            dict(tolerance=-1), dict(tolerance=BILLION + 1), dict(times=0), dict(times=101), dict(times=-1),
            dict(stuck=1), dict(stuck=-1), dict(stuck=1001), dict(stuck=-2), dict(side=-1), dict(side=3),
            dict(lo=-1), dict(lo=65536, hi=65536), dict(lo=5, hi=4), dict(hi=65536), dict(hi=-1), dict(lo=-1, hi=-1),
            dict(points=((-1, 0), (10, 100))), dict(points=((0, 0), (65536, 100))),
            dict(points=((0, -BILLION - 1), (10, 100))), dict(points=((0, 0), (10, BILLION + 1))),
            dict(points=((0, 0),)), dict(points=()), dict(points=[(k, k) for k in range(9)]),
        )
        for named in refused:
            self.assertEqual(run(sensor(**named), [COUNT]), [[-1], [0]], named)

    def test_points_that_do_not_rise(self):
        for points in (((0, 0), (0, 1)), ((0, 0), (1, 0)), ((1, 0), (0, 1)), ((0, 1), (1, 0)),
                       ((0, 0), (5, 5), (5, 6)), ((0, 0), (5, 5), (6, 5)), ((0, 0), (5, 5), (4, 6), (7, 7)),
                       [(k, k) for k in range(7)] + [(7, 6)], [(k, k) for k in range(7)] + [(6, 7)]):
            self.assertEqual(run(sensor(points=points), [COUNT]), [[-3], [0]], points)

    def test_the_order_of_the_refusals(self):
        full = [sensor()] * 16
        falling = ((1, 1), (0, 0))
        self.assertEqual(last(*full, sensor(width=2, points=falling)), [-1])
        self.assertEqual(last(*full, sensor(points=((1, 1), (0, BILLION + 1)))), [-1])
        self.assertEqual(last(*full, sensor(points=falling)), [-2])
        self.assertEqual(last(*full[1:], sensor(points=falling)), [-3])
        self.assertEqual(last(sensor(times=0, points=falling)), [-1])

    def test_sensors_are_apart(self):
        answered = run(sensor(points=EVEN), sensor(points=EVEN), [LIMITS, 0, 5, 6, 0], [FEED, 0, 9, 9],
                       [CORRECT, 0, 0, 0, 0, 1, 2], [STATE, 1], [DRIFT, 1, 0])
        self.assertEqual(answered[5:], [FRESH, text("1") + text("0")])


class Limits(unittest.TestCase):
    def test_they_are_told(self):
        self.assertEqual(run(sensor(), [LIMITS, 0, -5, 6, 7], [STATE, 0])[1:],
                         [[1], FRESH_CHANNEL * 2 + [0, 1, -5, 6, 7, 0, 0, 0]])

    def test_the_ends_of_each_range(self):
        for low, high, back in ((-BILLION, BILLION, 0), (-BILLION, BILLION, 2 * BILLION), (-BILLION, -BILLION, 0),
                                (BILLION, BILLION, 0), (3, 3, 0), (3, 4, 1)):
            self.assertEqual(last(sensor(), [LIMITS, 0, low, high, back]), [1], (low, high, back))

    def test_each_range_broken(self):
        for low, high, back in ((-BILLION - 1, 0, 0), (0, BILLION + 1, 0), (BILLION + 1, BILLION + 1, 0), (3, 2, 0),
                                (3, 4, 2), (3, 4, -1), (3, 3, 1), (3, 2, -1), (-BILLION, BILLION, 2 * BILLION + 1)):
            answered = run(sensor(), [LIMITS, 0, low, high, back], [STATE, 0])
            self.assertEqual(answered[1:], [[-1], FRESH], (low, high, back))

    def test_new_limits_begin_anew(self):
        made = [sensor(points=EVEN, times=2), [LIMITS, 0, 10, 20, 5]]
        high = run(*made, feeds(0, (30, 30), (30, 30)), [STATE, 0], [LIMITS, 0, 10, 20, 4], [STATE, 0], [READING, 0])
        self.assertEqual(high[3][-7:], [1, 10, 20, 5, 0, 2, 2])
        self.assertEqual(high[4], [1])
        self.assertEqual(high[5][-7:], [1, 10, 20, 4, 0, 0, 0])
        self.assertEqual(high[5][:-7], high[3][:-7])
        self.assertEqual(high[6], [0, 0, 0, 1, 30])
        low = run(*made, [FEED, 0, 3, 3], [LIMITS, 0, 10, 20, 5], [STATE, 0])
        self.assertEqual(low[4][-7:], [1, 10, 20, 5, 0, 0, 0])


class State(unittest.TestCase):
    def test_all_that_is_told(self):
        answered = run(sensor(width=3, tolerance=5, times=4, points=EVEN, lo=10), [LIMITS, 0, 40, 90, 5],
                       feeds(0, (20, 30), (20, 40), (25, 9), (21, 20), (22, 9), (22, 8)), [STATE, 0])
        # The reading is below 40 each time: 20, 20, 20, 21, 22 and 22. Apart by more than 5 with both in range:
        # 20 and 30, 20 and 30, 21 and 30.
        self.assertEqual(answered[-1], [0, 0, 2, 3, 22, 22, 21] + [0, 2, 1, 3, 20, 40, 30] + [3]
                         + [1, 40, 90, 5, 4, 0, 1])

    def test_nothing_changes(self):
        made = [sensor(points=EVEN, times=3), [LIMITS, 0, 40, 90, 5], feeds(0, (20, 30), (20, 30))]
        answered = run(*made, [STATE, 0], [STATE, 0])
        self.assertEqual(answered[-1], answered[-2])


class Count(unittest.TestCase):
    def test_none_some_and_refused_ones(self):
        self.assertEqual(run([COUNT], sensor(), [COUNT], sensor(width=2), [COUNT], sensor(), [COUNT]),
                         [[0], [0], [1], [-1], [1], [1], [2]])


if __name__ == "__main__":
    unittest.main()
