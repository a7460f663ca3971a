"""The ranges of the calls' arguments."""

LAST_COUNT = 65535
VALUE_BOUND = 1000000000


def is_count(number):
    return 0 <= number <= LAST_COUNT


def is_value(number):
    return -VALUE_BOUND <= number <= VALUE_BOUND


def are_counts(pairs):
    for pair in pairs:
        if not (is_count(pair[0]) and is_count(pair[1])):
            return False
    return True


def are_points(pairs):
    for pair in pairs:
        if not (is_count(pair[0]) and is_value(pair[1])):
            return False
    return True


def are_values(numbers):
    for number in numbers:
        if not is_value(number):
            return False
    return True


def are_settings(given):
    """Whether a sensor's seven numbers are in their ranges."""
    if given[0] not in (1, 3, 5):
        return False
    if not 0 <= given[1] <= VALUE_BOUND:
        return False
    if not 1 <= given[2] <= 100:
        return False
    if given[3] != 0 and not 2 <= given[3] <= 1000:
        return False
    if not 0 <= given[4] <= 2:
        return False
    return 0 <= given[5] <= given[6] <= LAST_COUNT


def are_limits(low, high, back):
    return -VALUE_BOUND <= low <= high <= VALUE_BOUND and 0 <= back <= high - low


def has_sensor(sensors, s):
    return 0 <= s < len(sensors)


def has_channel(sensors, s, ch):
    return has_sensor(sensors, s) and 0 <= ch <= 1
