"""The panel: a list of calls in, a list of answers out."""

from twinsensors.calls import answer_call


def answers(calls):
    """For each call, in order: how many numbers are answered, then these."""
    sensors = []
    told = []
    at = 0
    while at < len(calls):
        # Ahead of a call's numbers stand a 0 and how many they are.
        start = at + 2
        at = start + calls[at + 1]
        answer = answer_call(sensors, calls[start:at])
        told.append(len(answer))
        told.extend(answer)
    return told
