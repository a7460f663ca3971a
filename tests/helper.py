"""What the tests share: calls by name, and a way to hand them in and take the answers apart."""

from twinsensors.panel import answers

SENSOR, LIMITS, FEED, FEEDS, READING, EXACT, VALUE, CORRECT, DRIFT = range(9)
REFERENCE, LEAST, MIDDLE, LINE, STATE, CLEAR, COUNT, GAP = range(9, 17)


def flat(calls):
    numbers = []
    for call in calls:
        numbers += [0, len(call)] + list(call)
    return numbers


def apart(numbers):
    found = []
    at = 0
    while at < len(numbers):
        found.append(numbers[at + 1:at + 1 + numbers[at]])
        at += 1 + numbers[at]
    return found


def run(*calls):
    """The answers, one list a call."""
    return apart(answers(flat(calls)))


def last(*calls):
    return run(*calls)[-1]


def listed(things):
    """A list as it stands in a call: how many, then they; pairs are laid flat."""
    numbers = [len(things)]
    for thing in things:
        numbers += thing if isinstance(thing, (list, tuple)) else [thing]
    return numbers


def sensor(width=1, tolerance=0, times=1, stuck=0, side=0, lo=0, hi=65535, points=((0, 0), (10, 100))):
    return [SENSOR, width, tolerance, times, stuck, side, lo, hi] + listed(points)


def feeds(s, *pairs):
    return [FEEDS, s] + listed(pairs)


def text(words):
    """A text as it's answered."""
    return [len(words)] + list(words.encode("ascii"))


# Each count is its own value.
EVEN = ((0, 0), (65535, 65535))
