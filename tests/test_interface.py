"""The interface, the calls' forms, and what holds for all calls."""

import builtins
import unittest
from unittest import mock

from tests.helper import *
from twinsensors.panel import answers

# One call of each place that is taken when there's one sensor.
GOOD = (
    sensor(),
    [LIMITS, 0, 1, 2, 1],
    [FEED, 0, 1, 1],
    [FEEDS, 0, 1, 2, 2],
    [READING, 0],
    [EXACT, 0, 0, 5],
    [VALUE, 0, 0, 5],
    [CORRECT, 0, 0, 0, 0, 10, 50],
    [DRIFT, 0, 0],
    [REFERENCE, 0, 5],
    [LEAST, 0, 0, 0, 10, 5],
    [MIDDLE, 3, 1, 2, 3],
    [LINE, 2, 0, 0, 1, 1],
    [STATE, 0],
    [CLEAR, 0],
    [COUNT],
    [GAP, 0],
)
WITH_LIST = (SENSOR, FEEDS, MIDDLE, LINE)
HUGE = 10 ** 18


class Interface(unittest.TestCase):
    def test_the_documents_example(self):
        calls = [0, 13, 0, 1, 0, 1, 0, 0, 0, 65535, 2, 0, 0, 10, 100, 0, 1, 15]
        self.assertEqual(answers(calls), [1, 0, 1, 1])

    def test_each_call_is_answered_in_order(self):
        answered = run(sensor(), *GOOD)
        self.assertEqual(len(answered), 18)
        for answer in answered:
            self.assertGreaterEqual(answer[0], 0)

    def test_400_calls(self):
        answered = run(sensor(), *[[COUNT]] * 398, sensor())
        self.assertEqual(answered, [[0]] + [[1]] * 398 + [[1]])

    def test_17000_numbers(self):
        call = [MIDDLE, 390] + [0] * 390
        calls = flat([call] * 43)
        self.assertLessEqual(len(calls), 17000)
        self.assertEqual(answers(calls), [1, -1] * 43)

    def test_what_is_handed_in_stays(self):
        calls = flat([sensor(), *GOOD, [99], [MIDDLE, 3, 3, 1, 2], [LINE, 2, 5, 5, 1, 1]])
        before = list(calls)
        answers(calls)
        self.assertEqual(calls, before)

    def test_what_is_handed_in_is_never_written(self):
        class Watched(list):
            def refuse(self, *given):
                raise AssertionError("written")
            __setitem__ = __delitem__ = __iadd__ = __imul__ = refuse
            append = extend = insert = pop = remove = clear = sort = reverse = refuse
        calls = flat([sensor(), *GOOD])
        self.assertEqual(answers(Watched(calls)), answers(calls))

    def test_two_times_are_independent(self):
        calls = flat([[COUNT], sensor(times=2), feeds(0, (1, 5), (1, 5)), [STATE, 0], [CORRECT, 0, 0, 0, 0, 10, 7]])
        first = answers(calls)
        self.assertEqual(answers(calls), first)
        self.assertEqual(answers([0, 1, 15]), [1, 0])
        first.append(5)
        self.assertEqual(answers(calls), first[:-1])

    def test_answers_are_plain_whole_numbers(self):
        told = answers(flat([sensor(), *GOOD, [STATE, 0], [REFERENCE, 0, 10], [GAP, 0], [99]]))
        self.assertIs(type(told), list)
        self.assertEqual({type(number) for number in told}, {int})

    def test_it_prints_and_reads_nothing(self):
        def refuse(*given, **named):
            raise AssertionError("printed or read")
        calls = flat([sensor(), *GOOD])
        with mock.patch.object(builtins, "print", refuse), mock.patch.object(builtins, "open", refuse):
            answers(calls)


class Forms(unittest.TestCase):
    def test_no_numbers_at_all(self):
        self.assertEqual(run([], [COUNT]), [[-100], [0]])

    def test_places_that_are_not_told(self):
        for place in (-1, 17, 18, 100, -17, -HUGE, HUGE):
            self.assertEqual(run([place], [place, 0]), [[-100], [-100]], place)

    def test_too_few_and_too_many(self):
        for call in GOOD:
            self.assertNotEqual(last(sensor(), call), [-100], call)
            self.assertEqual(last(sensor(), call + [0]), [-100], call)
            if len(call) > 1:
                self.assertEqual(last(sensor(), call[:-1]), [-100], call)

    def test_a_place_alone(self):
        for call in GOOD:
            if call[0] != COUNT:
                self.assertEqual(last(sensor(), call[:1]), [-100], call)

    def test_how_many_that_does_not_fit(self):
        places = {SENSOR: 8, FEEDS: 2, MIDDLE: 1, LINE: 1}
        for call in GOOD:
            if call[0] not in WITH_LIST:
                continue
            at = places[call[0]]
            for change in (-1, 1, -2 * call[at], HUGE, -HUGE):
                broken = call[:at] + [call[at] + change] + call[at + 1:]
                self.assertEqual(last(sensor(), broken), [-100], broken)

    def test_a_negative_how_many(self):
        self.assertEqual(run(sensor(), [MIDDLE, -1], [LINE, -1], [FEEDS, 0, -1], [MIDDLE, -1, 5], [LINE, -1, 1, 2]),
                         [[0]] + [[-100]] * 5)

    def test_pairs_are_counted_as_pairs(self):
        self.assertEqual(run(sensor(), [FEEDS, 0, 2, 1, 1], [LINE, 4, 0, 0, 1, 1], [FEEDS, 0, 1, 1, 1, 1]),
                         [[0]] + [[-100]] * 3)

    def test_the_form_comes_ahead_of_the_ranges(self):
        wrong = (
            [SENSOR, 2, -1, 0, 1, 3, -1, -1, 2, -1, 0],
            [LIMITS, 9, 5, 4, -1, 0],
            [FEED, 9, -1],
            [FEEDS, 9, 1, -1],
            [READING, 9, 0],
            [EXACT, 9, 2],
            [VALUE, 9, 2],
            [CORRECT, 9, 2, -1, 0, 0],
            [DRIFT, 9],
            [REFERENCE, 9],
            [LEAST, 9, 0, 0, 0],
            [MIDDLE, 2, HUGE],
            [LINE, 1, -1],
            [STATE, 9, 9],
            [CLEAR, -1, 0],
            [GAP, 9, 9],
        )
        for call in wrong:
            self.assertEqual(last(sensor(), call), [-100], call)

    def test_lists_that_fit_but_are_too_short_or_too_long(self):
        self.assertEqual(run(
            sensor(), [MIDDLE, 0], [MIDDLE, 17] + [0] * 17, [LINE, 0], [LINE, 1, 0, 0], [LINE] + listed([(k, k) for k in range(17)]),
            [FEEDS, 0] + listed([(1, 1)] * 101), sensor(points=()), sensor(points=((0, 0),)),
            sensor(points=[(k, k) for k in range(9)])), [[0]] + [[-1]] * 9)


class NoSuchSensor(unittest.TestCase):
    def test_before_there_is_one(self):
        for call in GOOD:
            if call[0] not in (SENSOR, MIDDLE, LINE, COUNT):
                self.assertEqual(run(call), [[-1]], call)

    def test_on_either_side(self):
        for call in GOOD:
            if call[0] in (SENSOR, MIDDLE, LINE, COUNT):
                continue
            for s in (-1, -2, 2, 16, HUGE, -HUGE):
                broken = call[:1] + [s] + call[2:]
                self.assertEqual(last(sensor(), sensor(), broken), [-1], broken)

    def test_channels_on_either_side(self):
        for call in GOOD:
            if call[0] not in (EXACT, VALUE, CORRECT, DRIFT, LEAST):
                continue
            for ch in (-1, 2, -2, HUGE):
                broken = call[:2] + [ch] + call[3:]
                self.assertEqual(last(sensor(), broken), [-1], broken)
            self.assertNotEqual(last(sensor(), call[:2] + [1] + call[3:]), [-1])


class RefusalsChangeNothing(unittest.TestCase):
    def test_nothing_is_changed(self):
        made = [sensor(width=3, tolerance=5, times=3, points=EVEN, lo=10, hi=60000), [LIMITS, 0, 20, 30, 5],
                [CORRECT, 0, 1, 0, 0, 10, 15], feeds(0, (20, 30), (5, 40), (50, 50), (50, 5))]
        shown = [[STATE, 0], [DRIFT, 0, 0], [DRIFT, 0, 1], [READING, 0], [COUNT]]
        refused = [
            [99], sensor(width=2), sensor(points=((0, 0), (0, 1))), [LIMITS, 0, 2, 1, 0], [LIMITS, 0, 0, 1, 2],
            [LIMITS, 0, 0, 1], [FEED, 0, 20, 65536], [FEED, 0, -1, 20], feeds(0, (20, 20), (20, -1)),
            [FEEDS, 0] + listed([(20, 20)] * 101), [FEEDS, 0, 2, 20, 20], [CORRECT, 0, 0, 5, 0, 5, 1],
            [CORRECT, 0, 0, 5, 1, 6, 1], [CORRECT, 0, 0, 0, 0, 1, 10 ** 9], [CORRECT, 0, 2, 0, 0, 10, 20],
            [REFERENCE, 0, 10 ** 9 + 1], [REFERENCE, 0], [CLEAR, 1], [CLEAR, 0, 0],
        ]
        before = run(*made, *shown)[-5:]
        for call in refused:
            answered = run(*made, call, *shown)
            self.assertEqual(len(answered[4]), 1, call)
            self.assertLess(answered[4][0], 0, call)
            self.assertEqual(answered[-5:], before, call)


if __name__ == "__main__":
    unittest.main()
