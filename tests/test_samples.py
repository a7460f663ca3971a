"""Promises 3, 4, 5, 15 and 17: feed, feeds, reading, clear, gap, and a sample's three steps."""

import unittest

from tests.helper import *


def states(made, pairs, part):
    """A part of the state behind each pair."""
    calls = list(made)
    for m, n in pairs:
        calls += [[FEED, 0, m, n], [STATE, 0]]
    return [part(answer) for answer in run(*calls)[len(made) + 1::2]]


def fed(made, *pairs):
    """What feed answers to each pair."""
    return run(*made, *[[FEED, 0, m, n] for m, n in pairs])[len(made):]


def wide(**named):
    """A sensor whose channels are never unlike."""
    return sensor(**{"points": EVEN, "tolerance": 10 ** 9, **named})


class Feed(unittest.TestCase):
    def test_an_ordinary_one(self):
        self.assertEqual(run(sensor(tolerance=50), [FEED, 0, 3, 5]), [[0], [0, 0, 0, 1, 30]])

    def test_the_ends_of_the_range(self):
        self.assertEqual(fed([wide(side=1)], (0, 65535)), [[0, 0, 0, 1, 65535]])
        self.assertEqual(fed([wide(side=0)], (65535, 0)), [[0, 0, 0, 1, 0]])
        for m, n in ((-1, 0), (0, -1), (65536, 0), (0, 65536)):
            self.assertEqual(last(wide(), [FEED, 0, m, n]), [-1])

    def test_no_reading(self):
        self.assertEqual(fed([wide(lo=10, times=2)], (9, 9)), [[0, 0, 0, 0, 0]])
        self.assertEqual(fed([wide(lo=10)], (9, 9)), [[1, 1, 0, 0, 0]])


class Feeds(unittest.TestCase):
    def test_no_pair(self):
        made = [wide(times=2), [LIMITS, 0, 10, 20, 1], feeds(0, (30, 40), (30, 40))]
        answered = run(*made, [STATE, 0], feeds(0), [STATE, 0], [READING, 0])
        self.assertEqual(answered[-3], [0, 0, 2, 1, 30])
        self.assertEqual(answered[-3], answered[-1])
        self.assertEqual(answered[-4], answered[-2])
        self.assertEqual(last(wide(), feeds(0)), [0, 0, 0, 0, 0])

    def test_as_feed_one_by_one(self):
        pairs = [(k * 7 % 50, k * 3 % 40) for k in range(100)]
        made = [sensor(points=EVEN, width=5, tolerance=30, times=3, lo=3, side=2), [LIMITS, 0, 10, 20, 2]]
        single = run(*made, *[[FEED, 0, m, n] for m, n in pairs], [STATE, 0])
        together = run(*made, feeds(0, *pairs), [STATE, 0])
        self.assertEqual(together[-2:], single[-2:])

    def test_100_and_101_pairs(self):
        self.assertEqual(last(wide(), feeds(0, *[(1, 1)] * 100)), [0, 0, 0, 1, 1])
        self.assertEqual(last(wide(), feeds(0, *[(1, 1)] * 101)), [-1])

    def test_one_wrong_count_refuses_all(self):
        for pair in ((-1, 0), (0, -1), (65536, 0), (0, 65536)):
            self.assertEqual(run(wide(), feeds(0, (1, 1), pair), [READING, 0])[1:], [[-1], [0, 0, 0, 0, 0]])


class Reading(unittest.TestCase):
    def test_the_sides(self):
        self.assertEqual([fed([wide(side=side)], (11, 20))[0][4] for side in (0, 1, 2)], [11, 20, 15])
        self.assertEqual([fed([wide(side=side)], (20, 11))[0][4] for side in (0, 1, 2)], [11, 20, 15])

    def test_half_of_a_sum_below_0_is_rounded_down(self):
        low = wide(side=2, points=((0, -100), (100, 0)))
        self.assertEqual(fed([low], (93, 98)), [[0, 0, 0, 1, -5]])

    def test_one_trusted_alone(self):
        for side in (0, 1, 2):
            made = [wide(lo=10, side=side)]
            self.assertEqual(fed(made, (9, 50)), [[1, 0, 0, 1, 50]])
            self.assertEqual(fed(made, (50, 9)), [[0, 1, 0, 1, 50]])
            self.assertEqual(fed(made, (20, 50), (9, 60)), [[0, 0, 0, 1, (20, 50, 35)[side]], [1, 0, 0, 1, 60]])

    def test_one_that_tells_nothing_is_not_trusted(self):
        self.assertEqual(fed([wide(lo=10, times=5)], (9, 50)), [[0, 0, 0, 1, 50]])

    def test_nothing_changes(self):
        made = [sensor(points=EVEN, times=5), [LIMITS, 0, 5, 6, 1], feeds(0, (9, 3), (9, 3))]
        answered = run(*made, [STATE, 0], [READING, 0], [READING, 0], [STATE, 0])
        self.assertEqual(answered[-4], answered[-1])
        self.assertEqual(answered[-3:-1], [[0, 0, 0, 1, 3]] * 2)

    def test_it_hangs_on_the_correction_as_it_is_now(self):
        answered = run(wide(side=1), [FEED, 0, 10, 10], [CORRECT, 0, 1, 0, 0, 10, 25], [READING, 0], [GAP, 0])
        self.assertEqual(answered[-2:], [[0, 0, 0, 1, 25], [1, 15]])


class Window(unittest.TestCase):
    def test_widths(self):
        pairs = [(k, 10 - k) for k in range(1, 8)]
        for width in (1, 3, 5):
            answered = last(wide(width=width), feeds(0, *pairs), [STATE, 0])
            newest = [7, 6, 5, 4, 3, 2, 1][:width]
            self.assertEqual(answered[:8 + 2 * width],
                             [0, 0, 1, width] + newest + [0, 0, 1, width] + [10 - k for k in newest])

    def test_the_middle_one_of_one_to_five(self):
        told = [answer[4] for answer in fed([wide(width=5)], *[(k, k) for k in (50, 10, 40, 20, 30, 60, 5)])]
        # Windows in rising order: 50; 10 50; 10 40 50; 10 20 40 50; 10 20 30 40 50; 10 20 30 40 60; 5 20 30 40 60.
        self.assertEqual(told, [50, 10, 40, 20, 30, 30, 30])

    def test_the_middle_one_of_three(self):
        told = [answer[4] for answer in fed([wide(width=3)], *[(k, k) for k in (9, 5, 7, 1, 1, 8)])]
        self.assertEqual(told, [9, 5, 7, 5, 1, 1])

    def test_width_1_tells_the_newest(self):
        told = [answer[4] for answer in fed([wide()], (9, 9), (5, 5), (7, 7))]
        self.assertEqual(told, [9, 5, 7])

    def test_counts_out_of_range_do_not_enter(self):
        answered = last(wide(width=3, lo=10, hi=20, times=9), feeds(0, (10, 20), (9, 21), (20, 10)), [STATE, 0])
        self.assertEqual(answered[:12], [0, 0, 1, 2, 20, 10, 0, 0, 1, 2, 10, 20])


class OutOfRange(unittest.TestCase):
    def test_the_ends_of_the_range(self):
        self.assertEqual(fed([wide(lo=10, hi=20)], (10, 20)), [[0, 0, 0, 1, 10]])
        self.assertEqual(fed([wide(lo=10, hi=20)], (9, 20))[0][:2], [1, 0])
        self.assertEqual(fed([wide(lo=10, hi=20)], (10, 21))[0][:2], [0, 1])

    def test_times_in_a_row(self):
        made = [wide(lo=10, times=3)]
        pairs = [(9, 20), (9, 20), (20, 9), (9, 9), (9, 9), (9, 20), (9, 20), (20, 20)]
        self.assertEqual(states(made, pairs, lambda state: state[:2]),
                         [[0, 1], [0, 2], [0, 0], [0, 1], [0, 2], [1, 3], [1, 3], [1, 0]])

    def test_out_never_goes_beyond_times(self):
        for times in (1, 2, 100):
            answered = last(wide(lo=10, times=times), feeds(0, *[(9, 9)] * 100), feeds(0, (9, 9), (9, 9)), [STATE, 0])
            self.assertEqual(answered[:8], [1, times, 0, 0] * 2)

    def test_a_fault_that_is_latched_stays(self):
        made = [wide(lo=10, stuck=2)]
        self.assertEqual([answer[:2] for answer in fed(made, (15, 9), (15, 15), (9, 15), (9, 15))],
                         [[0, 1], [2, 1], [2, 1], [2, 1]])

    def test_out_of_range_stays_out_of_unlike(self):
        made = [sensor(points=EVEN, lo=10, times=3, tolerance=1)]
        pairs = [(20, 30), (20, 9), (9, 30), (9, 9), (20, 30), (20, 30)]
        self.assertEqual(states(made, pairs, lambda state: [state[0], state[-8]]),
                         [[0, 1], [0, 1], [0, 1], [0, 1], [0, 2], [3, 0]])


class Stuck(unittest.TestCase):
    def test_alike_at_stuck(self):
        made = [wide(stuck=3, width=1)]
        pairs = [(5, 5), (5, 6), (5, 6), (5, 6), (6, 5)]
        self.assertEqual(states(made, pairs, lambda state: [state[0], state[2], state[5], state[7]]),
                         [[0, 1, 0, 1], [0, 2, 0, 1], [2, 3, 0, 2], [2, 4, 2, 3], [2, 1, 2, 1]])

    def test_stuck_0_never(self):
        answered = last(wide(), *[feeds(0, *[(5, 5)] * 100)] * 9, [STATE, 0])
        self.assertEqual(answered[:3], [0, 0, 900])

    def test_stuck_at_1000_and_alike_never_beyond(self):
        hundred = feeds(0, *[(5, 5)] * 100)
        made = [wide(stuck=1000)] + [hundred] * 9 + [feeds(0, *[(5, 5)] * 99)]
        answered = run(*made, [STATE, 0], [FEED, 0, 5, 5], [STATE, 0], hundred, [STATE, 0])
        self.assertEqual(answered[-5][:3], [0, 0, 999])
        self.assertEqual(answered[-4], [2, 2, 0, 0, 0])
        self.assertEqual(answered[-3][:3], [2, 0, 1000])
        self.assertEqual(answered[-1][:3], [2, 0, 1000])

    def test_a_count_out_of_range_does_not_end_the_row(self):
        made = [wide(stuck=3, lo=2, times=9)]
        pairs = [(5, 5), (1, 5), (5, 5), (1, 4), (5, 4)]
        self.assertEqual(states(made, pairs, lambda state: [state[0], state[2]]), [[0, 1], [0, 1], [0, 2], [0, 2], [2, 3]])

    def test_the_newest_one_is_looked_at_not_the_middle_one(self):
        made = [wide(stuck=2, width=3)]
        pairs = [(5, 5), (9, 9), (5, 5), (5, 5)]
        self.assertEqual(states(made, pairs, lambda state: [state[0], state[2]]), [[0, 1], [0, 1], [0, 1], [2, 2]])


class Unlike(unittest.TestCase):
    def test_at_the_tolerance_and_beyond_it(self):
        made = [sensor(points=EVEN, tolerance=5)]
        self.assertEqual(fed(made, (10, 15))[0], [0, 0, 0, 1, 10])
        self.assertEqual(fed(made, (15, 10))[0], [0, 0, 0, 1, 10])
        self.assertEqual(fed(made, (10, 16))[0], [3, 3, 0, 0, 0])
        self.assertEqual(fed(made, (16, 10))[0], [3, 3, 0, 0, 0])

    def test_times_in_a_row(self):
        made = [sensor(points=EVEN, tolerance=5, times=3)]
        pairs = [(10, 20), (10, 20), (10, 15), (20, 10), (10, 20), (10, 20), (10, 20)]
        self.assertEqual(states(made, pairs, lambda state: [state[0], state[5], state[-8]]),
                         [[0, 0, 1], [0, 0, 2], [0, 0, 0], [0, 0, 1], [0, 0, 2], [3, 3, 0], [3, 3, 0]])

    def test_what_they_tell_counts_not_the_newest(self):
        made = [sensor(points=EVEN, tolerance=5, width=3)]
        self.assertEqual(fed(made, (10, 10), (10, 10), (10, 50))[-1], [0, 0, 0, 1, 10])

    def test_one_that_is_not_trusted(self):
        made = [sensor(points=EVEN, tolerance=5, times=2, stuck=3)]
        pairs = [(10, 10), (10, 20), (10, 30)]
        # Channel 0 gets stuck in the very sample that would have been the second one apart.
        self.assertEqual(states(made, pairs, lambda state: [state[0], state[5], state[-8]]),
                         [[0, 0, 0], [0, 0, 1], [2, 0, 1]])

    def test_both_in_range_but_one_has_a_fault(self):
        made = [sensor(points=EVEN, lo=5, tolerance=1)]
        self.assertEqual(fed(made, (4, 50), (9, 50)), [[1, 0, 0, 1, 50]] * 2)


class Alarm(unittest.TestCase):
    def test_without_limits(self):
        self.assertEqual(fed([wide()], (65535, 65535))[0][2], 0)

    def test_at_the_limits_there_is_none(self):
        made = [wide(), [LIMITS, 0, 10, 20, 3]]
        self.assertEqual([fed(made, (v, v))[0][2] for v in (9, 10, 20, 21)], [1, 0, 0, 2])

    def test_the_way_back(self):
        made = [wide(), [LIMITS, 0, 10, 20, 3]]
        self.assertEqual([answer[2] for answer in fed(made, *[(v, v) for v in (21, 20, 18, 17, 18)])], [2, 2, 2, 0, 0])
        self.assertEqual([answer[2] for answer in fed(made, *[(v, v) for v in (9, 10, 12, 13, 12)])], [1, 1, 1, 0, 0])

    def test_no_way_back_at_back_0(self):
        made = [wide(), [LIMITS, 0, 10, 20, 0]]
        self.assertEqual([answer[2] for answer in fed(made, *[(v, v) for v in (21, 20, 9, 10)])], [2, 0, 1, 0])

    def test_times_in_a_row(self):
        made = [wide(times=3), [LIMITS, 0, 10, 20, 3]]
        pairs = [(v, v) for v in (21, 22, 20, 21, 21, 21, 21, 19, 9, 9, 9, 9, 11, 13)]
        self.assertEqual(states(made, pairs, lambda state: state[-3:]),
                         [[0, 1, 0], [0, 2, 0], [0, 0, 0], [0, 1, 0], [0, 2, 0], [0, 3, 2], [0, 3, 2], [0, 0, 2],
                          [1, 0, 0], [2, 0, 0], [3, 0, 1], [3, 0, 1], [0, 0, 1], [0, 0, 0]])

    def test_from_one_alarm_to_the_other(self):
        made = [wide(times=2), [LIMITS, 0, 10, 20, 10]]
        pairs = [(v, v) for v in (21, 21, 9, 9, 21, 21)]
        # 9 is at most 20 - 10, and 21 is at least 10 + 10, so that each way leads over no alarm.
        self.assertEqual([answer[2] for answer in fed(made, *pairs)], [0, 2, 0, 1, 0, 2])
        self.assertEqual([answer[2] for answer in fed([wide(), [LIMITS, 0, 10, 20, 5]], (21, 21), (9, 9), (21, 21))],
                         [2, 1, 2])

    def test_no_reading_leaves_all_as_it_is(self):
        made = [wide(times=2, lo=5, stuck=3), [LIMITS, 0, 10, 20, 5], feeds(0, (30, 30), (30, 30))]
        pairs = [(30, 30), (12, 12)]
        self.assertEqual(states(made, pairs, lambda state: [state[0]] + state[-3:]), [[2, 0, 2, 2], [2, 0, 2, 2]])

    def test_the_reading_is_the_one_behind_the_second_step(self):
        made = [sensor(points=EVEN, tolerance=1, times=1), [LIMITS, 0, 10, 20, 5]]
        self.assertEqual(fed(made, (30, 40)), [[3, 3, 0, 0, 0]])

    def test_a_sample_out_of_range_is_watched_by_what_is_told_still(self):
        made = [wide(times=3, lo=10), [LIMITS, 0, 10, 20, 5]]
        self.assertEqual(states(made, [(30, 30), (9, 9)], lambda state: state[-2]), [1, 2])


class Clear(unittest.TestCase):
    def test_what_goes_and_what_stays(self):
        made = [sensor(points=EVEN, width=3, tolerance=5, times=4, lo=10), [LIMITS, 0, 40, 90, 5],
                [CORRECT, 0, 1, 0, 0, 10, 20], feeds(0, *[(20, 9)] * 4), feeds(0, (20, 30), (9, 30))]
        answered = run(*made, [STATE, 0], [CLEAR, 0], [STATE, 0], [DRIFT, 0, 1], [READING, 0])
        self.assertEqual(answered[-5], [0, 1, 5, 3, 20, 20, 20, 1, 0, 2, 2, 30, 30, 0, 1, 40, 90, 5, 4, 0, 1])
        self.assertEqual(answered[-4], [1])
        self.assertEqual(answered[-3], [0, 0, 0, 0, 1, 0, 0, 0, 0, 1, 40, 90, 5, 4, 0, 1])
        self.assertEqual(answered[-2], text("2") + text("0"))
        self.assertEqual(answered[-1], [0, 1, 1, 0, 0])

    def test_unlike_goes(self):
        made = [sensor(points=EVEN, times=3), feeds(0, (1, 2), (1, 2))]
        answered = run(*made, [STATE, 0], [CLEAR, 0], [STATE, 0])
        self.assertEqual([answered[-3][-8], answered[-1][-8]], [2, 0])

    def test_alike_is_counted_anew(self):
        made = [wide(stuck=3), feeds(0, (5, 5), (5, 5))]
        answered = run(*made, [CLEAR, 0], [FEED, 0, 5, 5], [STATE, 0], feeds(0, (5, 5), (5, 5)))
        self.assertEqual(answered[-2][:5], [0, 0, 1, 1, 5])
        self.assertEqual(answered[-1][:2], [2, 2])

    def test_a_new_one(self):
        answered = run(sensor(), [STATE, 0], [CLEAR, 0], [STATE, 0])
        self.assertEqual(answered[1], answered[3])


class Gap(unittest.TestCase):
    def test_without_a_sign(self):
        self.assertEqual(last(wide(), [FEED, 0, 10, 25], [GAP, 0]), [1, 15])
        self.assertEqual(last(wide(), [FEED, 0, 25, 10], [GAP, 0]), [1, 15])
        self.assertEqual(last(wide(), [FEED, 0, 25, 25], [GAP, 0]), [1, 0])

    def test_of_values_below_0(self):
        low = wide(points=((0, -100), (300, 0)))
        # -100/3 and -200/3 are rounded down to -34 and -67 first.
        self.assertEqual(last(low, [FEED, 0, 200, 100], [GAP, 0]), [1, 33])

    def test_not_both_trusted(self):
        self.assertEqual(last(wide(), [GAP, 0]), [0, 0])
        self.assertEqual(last(wide(lo=5, times=2), [FEED, 0, 4, 9], [GAP, 0]), [0, 0])
        self.assertEqual(last(wide(lo=5), feeds(0, (9, 9), (9, 4)), [GAP, 0]), [0, 0])
        self.assertEqual(last(sensor(), [FEED, 0, 1, 9], [GAP, 0]), [0, 0])


if __name__ == "__main__":
    unittest.main()
