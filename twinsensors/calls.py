"""The calls. Each is handed the sensors, its plain numbers and its list, and gives back what is answered."""

from twinsensors.channel import NO_FAULT
from twinsensors.forms import has_form, listed_things, plain_numbers
from twinsensors.line import fitted_line
from twinsensors.middle import middle_one
from twinsensors.ranges import are_counts, are_limits, are_points, are_settings, are_values
from twinsensors.ranges import has_channel, has_sensor, is_count, is_value
from twinsensors.ratio import ratio_text
from twinsensors.refusals import NO_CALL, NO_LINE, OUT_OF_RANGE, POINTS_DO_NOT_RISE, TOO_MANY_SENSORS
from twinsensors.sensor import Sensor
from twinsensors.settings import Settings
from twinsensors.table import points_rise

MOST_SENSORS = 16
MOST_FED = 100
MOST_SEARCHED = 1000
COUNTS_IN_ALL = 65536
SEARCH_BOUND = 1000000000000


def text_numbers(text):
    return [len(text)] + [ord(sign) for sign in text]


def number_if_any(number):
    if number is None:
        return [0, 0]
    return [1, number]


def sensor_answer(sensor):
    faults = [channel.fault for channel in sensor.channels]
    return faults + [sensor.alarm_now()] + number_if_any(sensor.reading_now())


def call_sensor(sensors, given, pairs):
    if not (are_settings(given) and 2 <= len(pairs) <= 8 and are_points(pairs)):
        return [OUT_OF_RANGE]
    if len(sensors) == MOST_SENSORS:
        return [TOO_MANY_SENSORS]
    if not points_rise(pairs):
        return [POINTS_DO_NOT_RISE]
    sensors.append(Sensor(Settings(given, pairs)))
    return [len(sensors) - 1]


def call_limits(sensors, given, listed):
    if not (has_sensor(sensors, given[0]) and are_limits(given[1], given[2], given[3])):
        return [OUT_OF_RANGE]
    sensors[given[0]].set_limits(given[1], given[2], given[3])
    return [1]


def call_feed(sensors, given, listed):
    return call_feeds(sensors, given[:1], [(given[1], given[2])])


def call_feeds(sensors, given, pairs):
    if not (has_sensor(sensors, given[0]) and len(pairs) <= MOST_FED and are_counts(pairs)):
        return [OUT_OF_RANGE]
    sensor = sensors[given[0]]
    for pair in pairs:
        sensor.sample(pair[0], pair[1])
    return sensor_answer(sensor)


def call_reading(sensors, given, listed):
    if not has_sensor(sensors, given[0]):
        return [OUT_OF_RANGE]
    return sensor_answer(sensors[given[0]])


def call_exact(sensors, given, listed):
    if not (has_channel(sensors, given[0], given[1]) and is_count(given[2])):
        return [OUT_OF_RANGE]
    channel = sensors[given[0]].channels[given[1]]
    return text_numbers(ratio_text(channel.exact_value(given[2])))


def call_value(sensors, given, listed):
    if not (has_channel(sensors, given[0], given[1]) and is_count(given[2])):
        return [OUT_OF_RANGE]
    channel = sensors[given[0]].channels[given[1]]
    return [0, channel.whole_value(given[2])]


def call_correct(sensors, given, listed):
    known = [(given[2], given[3]), (given[4], given[5])]
    if not (has_channel(sensors, given[0], given[1]) and are_points(known)):
        return [OUT_OF_RANGE]
    channel = sensors[given[0]].channels[given[1]]
    return [channel.correct(given[2], given[3], given[4], given[5])]


def call_drift(sensors, given, listed):
    if not has_channel(sensors, given[0], given[1]):
        return [OUT_OF_RANGE]
    channel = sensors[given[0]].channels[given[1]]
    return text_numbers(ratio_text(channel.gain)) + text_numbers(ratio_text(channel.offset))


def call_reference(sensors, given, listed):
    if not (has_sensor(sensors, given[0]) and is_value(given[1])):
        return [OUT_OF_RANGE]
    sensor = sensors[given[0]]
    sensor.judge_channels(given[1])
    first = 1 if sensor.channels[0].fault == NO_FAULT else 0
    second = 2 if sensor.channels[1].fault == NO_FAULT else 0
    return [first + second]


def can_search(n, k, v):
    if not (is_count(n) and 1 <= k <= MOST_SEARCHED and n + k <= COUNTS_IN_ALL):
        return False
    return -SEARCH_BOUND <= v <= SEARCH_BOUND


def call_least(sensors, given, listed):
    if not (has_channel(sensors, given[0], given[1]) and can_search(given[2], given[3], given[4])):
        return [OUT_OF_RANGE]
    channel = sensors[given[0]].channels[given[1]]
    beyond = given[2] + given[3]
    found = channel.least_reaching(given[2], beyond, given[4])
    return [0 if found == beyond else found + 1]


def call_middle(sensors, given, numbers):
    if not (1 <= len(numbers) <= 16 and are_values(numbers)):
        return [OUT_OF_RANGE]
    return [0, middle_one(numbers)]


def call_line(sensors, given, pairs):
    if not (2 <= len(pairs) <= 16 and are_points(pairs)):
        return [OUT_OF_RANGE]
    fitted = fitted_line(pairs)
    if fitted is None:
        return [NO_LINE]
    return text_numbers(ratio_text(fitted[0])) + text_numbers(ratio_text(fitted[1]))


def channel_state(channel):
    return [channel.fault, channel.out, channel.alike, len(channel.window)] + channel.window


def limits_state(limits):
    if limits is None:
        return [0, 0, 0, 0, 0, 0, 0]
    return [1, limits.low, limits.high, limits.back, limits.below, limits.above, limits.alarm]


def call_state(sensors, given, listed):
    if not has_sensor(sensors, given[0]):
        return [OUT_OF_RANGE]
    sensor = sensors[given[0]]
    states = channel_state(sensor.channels[0]) + channel_state(sensor.channels[1])
    return states + [sensor.unlike] + limits_state(sensor.limits)


def call_clear(sensors, given, listed):
    if not has_sensor(sensors, given[0]):
        return [OUT_OF_RANGE]
    sensors[given[0]].forget_counts()
    return [1]


def call_count(sensors, given, listed):
    return [len(sensors)]


def call_gap(sensors, given, listed):
    if not has_sensor(sensors, given[0]):
        return [OUT_OF_RANGE]
    return number_if_any(sensors[given[0]].gap_now())


# By place, as the forms are.
CALLS = (
    call_sensor,
    call_limits,
    call_feed,
    call_feeds,
    call_reading,
    call_exact,
    call_value,
    call_correct,
    call_drift,
    call_reference,
    call_least,
    call_middle,
    call_line,
    call_state,
    call_clear,
    call_count,
    call_gap,
)


def answer_call(sensors, numbers):
    if not has_form(numbers):
        return [NO_CALL]
    return CALLS[numbers[0]](sensors, plain_numbers(numbers), listed_things(numbers))
