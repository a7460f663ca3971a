"""Exact fractions: pairs (numerator, denominator) in lowest terms, the denominator above 0."""


def greatest_divisor(a, b):
    while b != 0:
        rest = a % b
        a = b
        b = rest
    return a


def ratio(top, bottom):
    """top / bottom as a fraction; bottom is above 0."""
    shared = greatest_divisor(abs(top), bottom)
    return (top // shared, bottom // shared)


def whole(number):
    return (number, 1)


def added(a, b):
    return ratio(a[0] * b[1] + b[0] * a[1], a[1] * b[1])


def subtracted(a, b):
    return ratio(a[0] * b[1] - b[0] * a[1], a[1] * b[1])


def multiplied(a, b):
    return ratio(a[0] * b[0], a[1] * b[1])


def divided(a, b):
    """a / b; b is above 0."""
    return ratio(a[0] * b[1], a[1] * b[0])


def is_below(a, b):
    return a[0] * b[1] < b[0] * a[1]


def rounded_down(a):
    return a[0] // a[1]


def ratio_text(a):
    if a[1] == 1:
        return str(a[0])
    return str(a[0]) + "/" + str(a[1])
