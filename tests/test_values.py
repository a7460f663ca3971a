"""Promises 6 to 13: exact, value, correct, drift, reference, least, middle, line."""

import unittest
from fractions import Fraction

from tests.helper import *

BILLION = 10 ** 9
TRILLION = 10 ** 12
BENT = ((10, -50), (20, -47), (23, 100), (1000, 101))
ONE_DRIFT = text("1") + text("0")


def exact(points, count, *between, ch=0):
    return last(sensor(points=points), *between, [EXACT, 0, ch, count])


def value(points, count, *between, ch=0):
    return last(sensor(points=points), *between, [VALUE, 0, ch, count])


def correct(points, c1, v1, c2, v2):
    """What correct answers, and the drift behind it."""
    return run(sensor(points=points), [CORRECT, 0, 0, c1, v1, c2, v2], [DRIFT, 0, 0])[1:]


class Exact(unittest.TestCase):
    def test_at_and_beyond_the_first_and_the_last_point(self):
        told = [exact(BENT, count) for count in (0, 9, 10, 1000, 1001, 65535)]
        self.assertEqual(told, [text("-50")] * 3 + [text("101")] * 3)

    def test_at_the_points_within(self):
        self.assertEqual([exact(BENT, 20), exact(BENT, 23)], [text("-47"), text("100")])

    def test_between_the_points(self):
        self.assertEqual([exact(BENT, 11), exact(BENT, 19), exact(BENT, 15), exact(BENT, 21), exact(BENT, 24)],
                         [text("-497/10"), text("-473/10"), text("-97/2"), text("2"), text("97701/977")])

    def test_zero_and_lowest_terms(self):
        self.assertEqual(exact(((0, -6), (12, 6)), 6), text("0"))
        self.assertEqual(exact(((0, -3), (12, 3)), 3), text("-3/2"))
        self.assertEqual(exact(((0, 0), (100, 40)), 25), text("10"))

    def test_the_documents_texts(self):
        self.assertEqual(exact(((0, -2), (2, -1)), 1), [4, 45, 51, 47, 50])
        self.assertEqual(exact(((0, 7), (2, 8)), 0), [1, 55])
        self.assertEqual(exact(((0, 0), (2, 8)), 0), [1, 48])

    def test_with_a_correction(self):
        fix = [CORRECT, 0, 1, 10, 0, 20, 7]
        self.assertEqual(exact(BENT, 10, fix, ch=1), text("0"))
        self.assertEqual(exact(BENT, 20, fix, ch=1), text("7"))
        self.assertEqual(exact(BENT, 11, fix, ch=1), text("7/10"))
        self.assertEqual(exact(BENT, 21, fix, ch=1), text("364/3"))
        self.assertEqual(exact(BENT, 21, fix, ch=0), text("2"))

    def test_the_range_of_counts(self):
        for place in (EXACT, VALUE):
            for count in (-1, 65536):
                self.assertEqual(last(sensor(), [place, 0, 0, count]), [-1])


class Value(unittest.TestCase):
    def test_rounded_down(self):
        points = ((0, -1), (4, 1))
        self.assertEqual([value(points, count) for count in (0, 1, 2, 3, 4)], [[0, -1], [0, -1], [0, 0], [0, 0], [0, 1]])
        self.assertEqual(value(((0, -10), (3, 1)), 1), [0, -7])
        self.assertEqual(value(((0, 10), (3, 21)), 1), [0, 13])

    def test_at_the_ends(self):
        points = ((5, -BILLION), (6, BILLION))
        self.assertEqual([value(points, count) for count in (0, 5, 6, 65535)], [[0, -BILLION]] * 2 + [[0, BILLION]] * 2)

    def test_the_exact_value_is_rounded_not_the_tables(self):
        # The table's value is 1/2, and twice that is 1.
        self.assertEqual(value(((0, 0), (2, 1)), 1, [CORRECT, 0, 0, 0, 0, 2, 2]), [0, 1])

    def test_with_a_correction(self):
        fix = [CORRECT, 0, 0, 0, -4, 10, -1]
        self.assertEqual([value(((0, 0), (10, 100)), count, fix) for count in (0, 1, 5, 9, 10)],
                         [[0, -4], [0, -4], [0, -3], [0, -2], [0, -1]])

    def test_each_channel_by_its_own(self):
        fix = [CORRECT, 0, 1, 0, 5, 10, 6]
        points = ((0, 0), (10, 100))
        self.assertEqual([value(points, 10, fix, ch=0), value(points, 10, fix, ch=1)], [[0, 100], [0, 6]])
        answered = run(sensor(points=points), sensor(points=points), [CORRECT, 1, 0, 0, 5, 10, 6],
                       [VALUE, 1, 0, 10], [VALUE, 1, 1, 10], [EXACT, 1, 0, 10], [EXACT, 1, 1, 10])
        self.assertEqual(answered[3:], [[0, 6], [0, 100], text("6"), text("100")])


class Correct(unittest.TestCase):
    def test_an_ordinary_one(self):
        self.assertEqual(correct(((0, 0), (10, 100)), 1, 5, 4, 25), [[1], text("2/3") + text("-5/3")])

    def test_the_counts_have_the_values_then(self):
        answered = run(sensor(points=BENT), [CORRECT, 0, 1, 12, -33, 400, 77], [EXACT, 0, 1, 12], [EXACT, 0, 1, 400],
                       [DRIFT, 0, 0])
        self.assertEqual(answered[2:], [text("-33"), text("77"), ONE_DRIFT])

    def test_one_on_top_of_the_other(self):
        answered = run(sensor(points=((0, 0), (10, 10))), [CORRECT, 0, 0, 0, 3, 10, 8], [DRIFT, 0, 0],
                       [CORRECT, 0, 0, 2, -7, 5, 2], [DRIFT, 0, 0], [EXACT, 0, 0, 2], [EXACT, 0, 0, 5])
        self.assertEqual(answered[2], text("1/2") + text("3"))
        self.assertEqual(answered[4], text("3") + text("-13"))
        self.assertEqual(answered[5:], [text("-7"), text("2")])

    def test_all_else_stays(self):
        made = [sensor(points=EVEN, times=3, width=3), [LIMITS, 0, 5, 6, 1], feeds(0, (9, 3), (9, 3))]
        answered = run(*made, [STATE, 0], [CORRECT, 0, 0, 0, 0, 9, 3], [STATE, 0], [DRIFT, 0, 1])
        self.assertEqual(answered[-4], answered[-2])
        self.assertEqual(answered[-1], ONE_DRIFT)

    def test_exact_values_that_do_not_rise(self):
        for c1, c2 in ((5, 5), (6, 5), (10, 11), (0, 0), (65535, 0)):
            self.assertEqual(correct(((0, 0), (10, 100)), c1, 0, c2, 1), [[-4], ONE_DRIFT])
        self.assertEqual(correct(((5, 0), (10, 100)), 0, 0, 5, 1), [[-4], ONE_DRIFT])
        self.assertEqual(correct(((5, 0), (10, 100)), 0, 0, 6, 20)[0], [1])

    def test_values_that_do_not_rise(self):
        for v1, v2 in ((5, 5), (6, 5), (BILLION, -BILLION)):
            self.assertEqual(correct(((0, 0), (10, 100)), 1, v1, 2, v2), [[-5], ONE_DRIFT])

    def test_the_order_of_the_refusals(self):
        points = ((0, 0), (1000, 1))
        self.assertEqual(correct(points, 5, 5, 5, 5)[0], [-4])
        self.assertEqual(correct(points, 5, 5, 4, BILLION + 1)[0], [-1])
        self.assertEqual(correct(points, 0, 5, 1, 5)[0], [-5])
        self.assertEqual(correct(points, 1, 0, 0, BILLION)[0], [-4])
        self.assertEqual(correct(points, 0, 0, 1, BILLION)[0], [-6])

    def test_each_range_broken(self):
        good = [0, -BILLION, 65535, BILLION]
        self.assertEqual(correct(EVEN, *good)[0], [1])
        for at, wrong in ((0, -1), (0, 65536), (1, -BILLION - 1), (1, BILLION + 1),
                          (2, -1), (2, 65536), (3, -BILLION - 1), (3, BILLION + 1)):
            broken = good[:at] + [wrong] + good[at + 1:]
            self.assertEqual(correct(EVEN, *broken), [[-1], ONE_DRIFT], broken)

    def test_the_gains_numerator(self):
        self.assertEqual(correct(((0, 0), (1000, 1)), 0, -1, 1, BILLION - 1), [[-6], ONE_DRIFT])
        self.assertEqual(correct(((0, 0), (999, 1)), 0, -1001001, 1, BILLION),
                         [[1], text("999999999999") + text("-1001001")])

    def test_the_gains_denominator(self):
        self.assertEqual(correct(((0, 0), (1001, BILLION)), 0, 0, 1000, 1), [[-6], ONE_DRIFT])
        self.assertEqual(correct(((0, 0), (1001, BILLION)), 0, 0, 1000, 2), [[1], text("1001/500000000000") + text("0")])
        self.assertEqual(correct(((0, -1001002), (1000, 999999999)), 0, 0, 999, 1),
                         [[1], text("1000/999999999999") + text("1001002000/999999999999")])

    def test_the_offsets_numerator(self):
        self.assertEqual(correct(((0, 1000), (1, 1001)), 0, 0, 1, BILLION), [[-6], ONE_DRIFT])
        self.assertEqual(correct(((0, -1000), (1, -999)), 0, 0, 1, BILLION), [[-6], ONE_DRIFT])
        self.assertEqual(correct(((0, 1001), (1, 1002)), 0, 0, 1, 999000999),
                         [[1], text("999000999") + text("-999999999999")])
        self.assertEqual(correct(((0, -1001), (1, -1000)), 0, 0, 1, 999000999),
                         [[1], text("999000999") + text("999999999999")])

    def test_the_offsets_denominator(self):
        # The gain would be 2/5^12, the offset -244148817/10^12.
        self.assertEqual(correct(((0, 1), (8192, 5 ** 12 + 1)), 1, 0, 4097, 1), [[-6], ONE_DRIFT])

    def test_the_value_of_the_last_count(self):
        self.assertEqual(correct(((0, 0), (1, 1), (2, 1000000)), 0, 0, 1, 1000000), [[1], text("1000000") + text("0")])
        self.assertEqual(correct(((0, 0), (1, 1), (2, 1000001)), 0, 0, 1, 1000000), [[-6], ONE_DRIFT])
        # 10^12 + 1/2, rounded down, is 10^12.
        self.assertEqual(correct(((0, -1), (1, 0), (2, 2), (3, 6605827)), 1, 0, 2, 302763),
                         [[1], text("302763/2") + text("0")])

    def test_the_value_of_the_count_0(self):
        self.assertEqual(correct(((0, -1000000), (1, 0), (2, 1)), 1, 0, 2, 1000000), [[1], text("1000000") + text("0")])
        self.assertEqual(correct(((0, -1000001), (1, 0), (2, 1)), 1, 0, 2, 1000000), [[-6], ONE_DRIFT])
        # -10^12 - 1/2, rounded down, is -10^12 - 1.
        self.assertEqual(correct(((0, -6605827), (1, 0), (2, 2)), 1, 0, 2, 302763), [[-6], ONE_DRIFT])


class Drift(unittest.TestCase):
    def test_at_first(self):
        self.assertEqual(run(sensor(), [DRIFT, 0, 0], [DRIFT, 0, 1])[1:], [[1, 49, 1, 48]] * 2)

    def test_each_channel_has_its_own(self):
        answered = run(sensor(), [CORRECT, 0, 0, 0, 1, 10, 2], [CORRECT, 0, 1, 0, -1, 10, 299], [DRIFT, 0, 0], [DRIFT, 0, 1])
        self.assertEqual(answered[3:], [text("1/100") + text("1"), text("3") + text("-1")])

    def test_nothing_changes(self):
        fix = [CORRECT, 0, 0, 0, 1, 10, 2]
        self.assertEqual(run(sensor(), fix, [DRIFT, 0, 0], [DRIFT, 0, 0])[-1], text("1/100") + text("1"))


class Reference(unittest.TestCase):
    def faults(self, *calls):
        answered = run(*calls, [STATE, 0])
        window = answered[-1][3]
        return answered[-2], [answered[-1][0], answered[-1][4 + window]]

    def test_at_most_the_tolerance_away(self):
        made = [sensor(points=EVEN, tolerance=5), [FEED, 0, 100, 103]]
        told = {97: 1, 98: 3, 95: 1, 94: 0, 105: 3, 106: 2, 108: 2, 109: 0}
        for known, answer in told.items():
            faults = [0 if answer & 1 else 4, 0 if answer & 2 else 4]
            self.assertEqual(self.faults(*made, [REFERENCE, 0, known]), ([answer], faults), known)

    def test_the_range_of_values(self):
        for known in (-BILLION - 1, BILLION + 1):
            self.assertEqual(last(sensor(), [REFERENCE, 0, known]), [-1])
        for known in (-BILLION, BILLION):
            self.assertEqual(last(sensor(), [REFERENCE, 0, known]), [0])

    def test_an_empty_window_is_not_good(self):
        self.assertEqual(self.faults(sensor(tolerance=BILLION), [REFERENCE, 0, 0]), ([0], [4, 4]))
        self.assertEqual(self.faults(sensor(tolerance=BILLION), [FEED, 0, 0, 0], [CLEAR, 0], [REFERENCE, 0, 0]), ([0], [4, 4]))

    def test_a_good_ones_fault_goes(self):
        made = [sensor(points=EVEN, tolerance=5), [FEED, 0, 100, 200]]
        self.assertEqual(self.faults(*made, [REFERENCE, 0, 100]), ([1], [0, 3]))
        self.assertEqual(self.faults(*made, [REFERENCE, 0, 200]), ([2], [3, 0]))
        self.assertEqual(self.faults(*made, [REFERENCE, 0, 100], [REFERENCE, 0, 201]), ([2], [4, 0]))

    def test_out_must_be_0(self):
        made = [sensor(points=EVEN, tolerance=5, lo=10, times=3), feeds(0, (100, 100), (9, 100))]
        self.assertEqual(self.faults(*made, [REFERENCE, 0, 100]), ([2], [4, 0]))
        self.assertEqual(self.faults(*made, [REFERENCE, 0, 100], [FEED, 0, 100, 100], [REFERENCE, 0, 100]), ([3], [0, 0]))
        stays = [sensor(points=EVEN, tolerance=5, lo=10), feeds(0, (100, 100), (9, 100)), [REFERENCE, 0, 100]]
        self.assertEqual(self.faults(*stays), ([2], [1, 0]))

    def test_alike_must_be_below_stuck(self):
        made = [sensor(points=EVEN, tolerance=5, stuck=3), feeds(0, (100, 101), (100, 100), (100, 100))]
        self.assertEqual(self.faults(*made, [REFERENCE, 0, 100]), ([2], [2, 0]))
        self.assertEqual(self.faults(*made, [FEED, 0, 101, 101], [REFERENCE, 0, 100]), ([3], [0, 0]))
        never = [sensor(points=EVEN, tolerance=5), feeds(0, *[(100, 100)] * 100)]
        self.assertEqual(self.faults(*never, [REFERENCE, 0, 100]), ([3], [0, 0]))

    def test_unlike_becomes_0_and_all_else_stays(self):
        made = [sensor(points=EVEN, times=3), [LIMITS, 0, 1, 2, 0], feeds(0, (5, 6), (5, 6))]
        answered = run(*made, [STATE, 0], [REFERENCE, 0, 5], [STATE, 0])
        self.assertEqual(answered[-3], [0, 0, 2, 1, 5, 0, 0, 2, 1, 6, 2, 1, 1, 2, 0, 0, 2, 0])
        self.assertEqual(answered[-2], [1])
        self.assertEqual(answered[-1], [0, 0, 2, 1, 5, 4, 0, 2, 1, 6, 0, 1, 1, 2, 0, 0, 2, 0])

    def test_what_it_tells_hangs_on_the_correction(self):
        made = [sensor(points=EVEN), [FEED, 0, 10, 10], [CORRECT, 0, 1, 0, 0, 10, 25]]
        self.assertEqual(last(*made, [REFERENCE, 0, 10]), [1])
        self.assertEqual(last(*made, [REFERENCE, 0, 25]), [2])


class Least(unittest.TestCase):
    def least(self, n, k, v, points=((10, 0), (40, 10)), *between):
        return last(sensor(points=points), *between, [LEAST, 0, 0, n, k, v])

    def test_the_least_one(self):
        self.assertEqual(self.least(0, 100, 5), [26])
        self.assertEqual(self.least(0, 100, 10), [41])
        self.assertEqual(self.least(0, 100, 1), [14])

    def test_none(self):
        self.assertEqual(self.least(0, 1000, 11), [0])
        self.assertEqual(self.least(0, 40, 10), [0])
        self.assertEqual(self.least(0, 41, 10), [41])

    def test_the_first_one(self):
        self.assertEqual(self.least(0, 5, 0), [1])
        self.assertEqual(self.least(0, 1, -TRILLION), [1])
        self.assertEqual(self.least(30, 5, 0), [31])
        self.assertEqual(self.least(25, 1, 5), [26])
        self.assertEqual(self.least(24, 1, 5), [0])

    def test_at_the_last_counts(self):
        self.assertEqual(self.least(65535, 1, 65535, EVEN), [65536])
        self.assertEqual(self.least(64536, 1000, 65535, EVEN), [65536])
        self.assertEqual(self.least(65535, 2, 65535, EVEN), [-1])
        self.assertEqual(self.least(64537, 1000, 65535, EVEN), [-1])

    def test_each_range_broken(self):
        for n, k, v in ((-1, 1, 0), (65536, 1, 0), (0, 0, 0), (0, 1001, 0), (0, -1, 0),
                        (0, 1, TRILLION + 1), (0, 1, -TRILLION - 1)):
            self.assertEqual(self.least(n, k, v), [-1], (n, k, v))
        self.assertEqual(self.least(0, 1000, TRILLION), [0])
        self.assertEqual(self.least(0, 1000, -TRILLION), [1])

    def test_as_value_tells_it_one_by_one(self):
        points = ((3, -20), (10, -17), (12, 5), (30, 9))
        fix = [CORRECT, 0, 0, 4, -9, 25, 16]
        values = [answer[1] for answer in run(sensor(points=points), fix, *[[VALUE, 0, 0, n] for n in range(40)])[2:]]
        for v in range(-15, 25):
            for n, k in ((0, 40), (7, 20), (11, 2)):
                found = [count + 1 for count in range(n, n + k) if values[count] >= v]
                self.assertEqual(self.least(n, k, v, points, fix), (found + [0])[:1], (n, k, v))

    def test_each_channel_by_its_own(self):
        answered = run(sensor(points=EVEN), [CORRECT, 0, 1, 0, 0, 1, 2], [LEAST, 0, 0, 0, 100, 10], [LEAST, 0, 1, 0, 100, 10])
        self.assertEqual(answered[2:], [[11], [6]])


class Middle(unittest.TestCase):
    def test_one_to_sixteen(self):
        self.assertEqual(last([MIDDLE] + listed([-7])), [0, -7])
        self.assertEqual(last([MIDDLE] + listed([9, 3])), [0, 3])
        self.assertEqual(last([MIDDLE] + listed([9, 3, 5])), [0, 5])
        self.assertEqual(last([MIDDLE] + listed([9, -3, 5, 1])), [0, 1])
        self.assertEqual(last([MIDDLE] + listed([2, 2, 1, 1, 2])), [0, 2])
        self.assertEqual(last([MIDDLE] + listed([k * 7 % 16 for k in range(16)])), [0, 7])

    def test_the_ranges(self):
        self.assertEqual(last([MIDDLE] + listed([-BILLION, BILLION])), [0, -BILLION])
        for wrong in (-BILLION - 1, BILLION + 1):
            self.assertEqual(last([MIDDLE] + listed([0, wrong, 0])), [-1])
            self.assertEqual(last([MIDDLE] + listed([wrong])), [-1])
        self.assertEqual(last([MIDDLE, 0]), [-1])
        self.assertEqual(last([MIDDLE] + listed([0] * 17)), [-1])


class Line(unittest.TestCase):
    def line(self, *points):
        return last([LINE] + listed(points))

    def test_two_points(self):
        self.assertEqual(self.line((0, 1), (2, 4)), text("3/2") + text("1"))
        self.assertEqual(self.line((1, 5), (3, 5)), text("0") + text("5"))
        self.assertEqual(self.line((1, 5), (3, -6)), text("-11/2") + text("21/2"))

    def test_more_points(self):
        # Sums: counts 6, values 7, squares 14, products 14; 4 * 14 - 36 = 20.
        self.assertEqual(self.line((0, 0), (1, 2), (2, 3), (3, 2)), text("7/10") + text("7/10"))
        self.assertEqual(self.line((1, 1), (2, 2), (4, 5)), text("19/14") + text("-1/2"))

    def test_any_order_and_twice(self):
        self.assertEqual(self.line((3, 2), (0, 0), (2, 3), (1, 2)), text("7/10") + text("7/10"))
        self.assertEqual(self.line((0, 0), (0, 0), (2, 4), (2, 4)), text("2") + text("0"))
        # Sums: counts 5, values 15, squares 9, products 23; 4 * 9 - 25 = 11.
        self.assertEqual(self.line((0, 0), (2, 4), (2, 4), (1, 7)), text("17/11") + text("20/11"))

    def test_where_there_is_none(self):
        self.assertEqual(self.line((5, 1), (5, 2)), [-7])
        self.assertEqual(self.line((0, 1), (0, 1)), [-7])
        self.assertEqual(self.line(*[(65535, k) for k in range(16)]), [-7])

    def test_sixteen_points_at_the_ends(self):
        points = [(65535 if k % 2 else 0, BILLION if k % 3 else -BILLION) for k in range(16)]
        points[0] = (32768, 77)
        k = len(points)
        cs, vs = sum(c for c, v in points), sum(v for c, v in points)
        slope = Fraction(k * sum(c * v for c, v in points) - cs * vs, k * sum(c * c for c, v in points) - cs * cs)
        self.assertEqual(self.line(*points), text(str(slope)) + text(str((vs - slope * cs) / k)))

    def test_the_ranges(self):
        for wrong in ((-1, 0), (65536, 0), (0, BILLION + 1), (0, -BILLION - 1)):
            self.assertEqual(self.line((5, 5), wrong), [-1])
            self.assertEqual(self.line(wrong, wrong), [-1])
        self.assertEqual(self.line((0, -BILLION), (65535, BILLION)), text("400000000/13107") + text("-1000000000"))
        self.assertEqual(self.line((0, 0)), [-1])
        self.assertEqual(self.line(), [-1])
        self.assertEqual(self.line(*[(k, k) for k in range(16)]), text("1") + text("0"))
        self.assertEqual(self.line(*[(k, k) for k in range(17)]), [-1])


if __name__ == "__main__":
    unittest.main()
