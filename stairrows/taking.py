"""Numbers taken out of stairs, one alone or a whole row."""

from stairrows.errors import NoPair, NoPlace
from stairrows.stairs import does_count, how_many_less, is_stairs, shape, with_number_at


def take_out(rows, at):
    if not can_take(rows, at):
        raise NoPlace("nothing can be taken out at the end of this row")
    moving = rows[at][-1]
    shorter = rows[at][:-1]
    # The rows below are copied, so that the answer shares no list with what was handed in.
    left = [list(row) for row in rows[at + 1:]]
    if shorter:
        left.insert(0, shorter)
    for row in reversed(rows[:at]):
        place = how_many_less(row, moving) - 1
        left.insert(0, with_number_at(row, place, moving))
        moving = row[place]
    return (left, moving)


def can_take(rows, at):
    if at < 0 or at >= len(rows):
        return False
    return at == len(rows) - 1 or len(rows[at + 1]) < len(rows[at])


def taken(first, second):
    if not is_pair(first, second):
        raise NoPair("these are not the first and the second stairs of a row")
    left = first
    numbers = []
    for at in reversed(grown_rows(second)):
        out = take_out(left, at)
        left = out[0]
        numbers.append(out[1])
    return list(reversed(numbers))


def is_pair(first, second):
    if not is_stairs(first) or not is_stairs(second):
        return False
    return shape(first) == shape(second) and does_count(second)


def grown_rows(second):
    row_of = {}
    for at, row in enumerate(second):
        for count in row:
            row_of[count] = at
    return [row_of[count] for count in sorted(row_of)]
