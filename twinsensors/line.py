"""The straight line by least squares."""

from twinsensors.ratio import divided, multiplied, ratio, subtracted, whole


def fitted_line(points):
    """The slope and the offset, two fractions, or None where all counts are the same."""
    k = len(points)
    counts = sum([point[0] for point in points])
    values = sum([point[1] for point in points])
    squares = sum([point[0] * point[0] for point in points])
    products = sum([point[0] * point[1] for point in points])
    # This is never below 0, so that it can stand as a denominator.
    spread = k * squares - counts * counts
    if spread == 0:
        return None
    slope = ratio(k * products - counts * values, spread)
    rest = subtracted(whole(values), multiplied(slope, whole(counts)))
    return (slope, divided(rest, whole(k)))
