"""What several tests need. Nothing here calls the program: the expected answers come from elsewhere."""

from copy import deepcopy
from itertools import permutations

HUGE = 10 ** 30 - 1
BEYOND = 10 ** 40


def counted_rows(most):
    """Every row of the numbers 1 to n, for n from 0 to most."""
    return [list(row) for n in range(most + 1) for row in permutations(range(1, n + 1))]


def counting_stairs(n):
    """All stairs of n places that count, made by putting n at each end where it may stand."""
    if n == 0:
        return [[]]
    found = []
    for rows in counting_stairs(n - 1):
        for at in range(len(rows) + 1):
            lengths = [len(row) for row in rows] + [0]
            if at == 0 or lengths[at - 1] > lengths[at]:
                grown = deepcopy(rows) + [[]]
                grown[at].append(n)
                found.append([row for row in grown if row])
    return found


def spread(rows):
    """The same stairs with other numbers: below nought, unevenly far apart, and very large."""
    numbers = sorted(number for row in rows for number in row)
    others = {}
    for place, number in enumerate(numbers):
        others[number] = -HUGE + 7 * place * place if place < 3 else HUGE - 100 + 3 * place
    return [[others[number] for number in row] for row in rows]


def is_stairs_by_words(rows):
    """Stairs as the document's words tell them, place by place."""
    for at, row in enumerate(rows):
        if len(row) < 1 or (at > 0 and len(row) > len(rows[at - 1])):
            return False
        for place, number in enumerate(row):
            if place > 0 and not number > row[place - 1]:
                return False
            if at > 0 and not number > rows[at - 1][place]:
                return False
    numbers = [number for row in rows for number in row]
    return all(numbers.count(number) == 1 for number in numbers)


def block(height, width):
    """Stairs of so many rows of so many places, counted row by row."""
    return [[at * width + place + 1 for place in range(width)] for at in range(height)]


def spoil(value):
    """Changes every list within a value, the value itself too."""
    if isinstance(value, (list, tuple)):
        for part in value:
            spoil(part)
    if isinstance(value, list):
        value.append(-5)
        value.reverse()


def check_keeps_nothing(case, function, *arguments):
    """Neither the call nor a later change of its answer or of what was handed in may reach further."""
    before = deepcopy(arguments)
    answer = function(*arguments)
    case.assertEqual(arguments, before)
    whole = deepcopy(answer)
    spoil(answer)
    case.assertEqual(arguments, before)
    again = function(*arguments)
    case.assertEqual(again, whole)
    spoil(arguments)
    case.assertEqual(again, whole)
    case.assertEqual(function(*deepcopy(before)), whole)


def check_refused(case, refusal, function, *arguments):
    """The call is refused with this very class, and changes nothing."""
    before = deepcopy(arguments)
    with case.assertRaises(refusal) as caught:
        function(*arguments)
    case.assertIs(type(caught.exception), refusal)
    case.assertEqual(arguments, before)
