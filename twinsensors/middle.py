"""The middle one of some numbers."""


def middle_one(numbers):
    """Of an even number of them, the lesser one of the two in the middle."""
    rising = sorted(numbers)
    return rising[(len(rising) - 1) // 2]
