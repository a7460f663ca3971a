"""The calls' forms: how many plain numbers each has, and whether a list follows."""

# By place: how many plain numbers, then how many numbers each thing of the list has (0: there's no list).
FORMS = (
    (7, 2),
    (4, 0),
    (3, 0),
    (1, 2),
    (1, 0),
    (3, 0),
    (3, 0),
    (6, 0),
    (2, 0),
    (2, 0),
    (5, 0),
    (0, 1),
    (0, 2),
    (1, 0),
    (1, 0),
    (0, 0),
    (1, 0),
)


def has_form(numbers):
    """Whether the numbers are a call, whatever its arguments are."""
    if len(numbers) == 0 or not 0 <= numbers[0] < len(FORMS):
        return False
    form = FORMS[numbers[0]]
    left = len(numbers) - 1 - form[0]
    if form[1] == 0:
        return left == 0
    return left >= 1 and numbers[1 + form[0]] * form[1] == left - 1


def plain_numbers(numbers):
    return numbers[1:1 + FORMS[numbers[0]][0]]


def listed_things(numbers):
    """The call's list: numbers, or pairs as tuples; empty where the call has none."""
    form = FORMS[numbers[0]]
    listed = numbers[2 + form[0]:]
    if form[1] == 2:
        return [(listed[k], listed[k + 1]) for k in range(0, len(listed), 2)]
    return listed
