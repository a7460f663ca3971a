"""A sensor's table: points (count, value), both rising from point to point."""

from twinsensors.ratio import ratio, whole


def points_rise(points):
    for k in range(1, len(points)):
        if points[k][0] <= points[k - 1][0] or points[k][1] <= points[k - 1][1]:
            return False
    return True


def value_between(before, behind, count):
    """The value at a count on the straight line through two points."""
    span = behind[0] - before[0]
    rise = behind[1] - before[1]
    return ratio(before[1] * span + (count - before[0]) * rise, span)


def table_value(points, count):
    """The table's value at a count, a fraction."""
    if count <= points[0][0]:
        return whole(points[0][1])
    for k in range(1, len(points)):
        if count < points[k][0]:
            return value_between(points[k - 1], points[k], count)
    return whole(points[len(points) - 1][1])
