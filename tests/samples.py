"""What several tests need. Nothing here calls the program: the expected answers come from elsewhere."""

from copy import deepcopy
from itertools import permutations

HUGE = 10 ** 30 - 1
BEYOND = 10 ** 40


def counted_rows(most):
    """Every row of the numbers 1 to n, for n from 0 to most."""
    return [list(row) for n in range(most + 1) for row in permutations(range(1, n + 1))]


def counting_stairs(n):
    """All stairs of n places that count, made by putting n at each end where it may stand."""
    if n == 0:
        return [[]]
    found = []
    for rows in counting_stairs(n - 1):
        for at in range(len(rows) + 1):
            lengths = [len(row) for row in rows] + [0]
            if at == 0 or lengths[at - 1] > lengths[at]:
                grown = deepcopy(rows) + [[]]
                grown[at].append(n)
                found.append([row for row in grown if row])
    return found


def spread(rows):
    """The same stairs with other numbers: below nought, unevenly far apart, and very large. Holes stay."""
    numbers = sorted(number for row in rows for number in row if number is not None)
    others = {None: None}
    for place, number in enumerate(numbers):
        others[number] = -HUGE + 7 * place * place if place < 3 else HUGE - 100 + 3 * place
    return [[others[number] for number in row] for row in rows]


def is_stairs_by_words(rows):
    """Stairs as the document's words tell them, place by place."""
    for at, row in enumerate(rows):
        if len(row) < 1 or (at > 0 and len(row) > len(rows[at - 1])):
            return False
        for place, number in enumerate(row):
            if place > 0 and not number > row[place - 1]:
                return False
            if at > 0 and not number > rows[at - 1][place]:
                return False
    numbers = [number for row in rows for number in row]
    return all(numbers.count(number) == 1 for number in numbers)


def block(height, width):
    """Stairs of so many rows of so many places, counted row by row."""
    return [[at * width + place + 1 for place in range(width)] for at in range(height)]


def mixed_row(many):
    """So many numbers, at most 46, neither rising nor falling for long."""
    return [k * 18 % 47 for k in range(1, many + 1)]


def exchanged(row):
    """Every row that one exchange makes of a row."""
    found = []
    for k in range(len(row) - 1):
        lesser, greater = sorted(row[k:k + 2])
        beside = ([row[k - 1]] if k > 0 else []) + row[k + 2:k + 3]
        if any(lesser < number < greater for number in beside):
            found.append(row[:k] + [row[k + 1], row[k]] + row[k + 2:])
    return found


def joined(row):
    """All rows that exchanges make of a row, itself too."""
    found = {tuple(row)}
    waiting = [row]
    while waiting:
        for other in exchanged(waiting.pop()):
            if tuple(other) not in found:
                found.add(tuple(other))
                waiting.append(other)
    return found


def holed_stairs(n):
    """All stairs with holes of n places, their numbers those up to n: the least numbers of stairs made holes."""
    found = []
    for rows in counting_stairs(n):
        for holes in range(n + 1):
            holed = [[number if number > holes else None for number in row] for row in rows]
            if holed not in found:
                found.append(holed)
    return found


def is_holed_by_words(rows):
    """Stairs with holes as the document's words tell them, place by place."""
    for at, row in enumerate(rows):
        above = rows[at - 1] if at > 0 else None
        if len(row) < 1 or (above is not None and len(row) > len(above)):
            return False
        if above is not None and row.count(None) > above.count(None):
            return False
        for place, number in enumerate(row):
            if number is None and any(other is not None for other in row[:place]):
                return False
            if number is not None and place > 0 and row[place - 1] is not None and number <= row[place - 1]:
                return False
            if number is not None and above is not None and above[place] is not None and number <= above[place]:
                return False
    numbers = [number for row in rows for number in row if number is not None]
    return all(numbers.count(number) == 1 for number in numbers)


def spoil(value):
    """Changes every list within a value, the value itself too."""
    if isinstance(value, (list, tuple)):
        for part in value:
            spoil(part)
    if isinstance(value, list):
        value.append(-5)
        value.reverse()


def check_keeps_nothing(case, function, *arguments):
    """Neither the call nor a later change of its answer or of what was handed in may reach further."""
    before = deepcopy(arguments)
    answer = function(*arguments)
    case.assertEqual(arguments, before)
    whole = deepcopy(answer)
    spoil(answer)
    case.assertEqual(arguments, before)
    again = function(*arguments)
    case.assertEqual(again, whole)
    spoil(arguments)
    case.assertEqual(again, whole)
    case.assertEqual(function(*deepcopy(before)), whole)


def check_refused(case, refusal, function, *arguments):
    """The call is refused with this very class, and changes nothing."""
    before = deepcopy(arguments)
    with case.assertRaises(refusal) as caught:
        function(*arguments)
    case.assertIs(type(caught.exception), refusal)
    case.assertEqual(arguments, before)
