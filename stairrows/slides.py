"""Stairs with holes, holes slid out of them, and the evacuation of stairs."""

from stairrows.errors import NoPlace, NoStairs
from stairrows.laying import laid
from stairrows.stairs import does_count, is_shape, is_stairs, reading, shape, turned


def is_holed(rows):
    # Columns are found only where the lengths are a shape. That no row has more holes than the one above is asked
    # by the columns: else one of them would have a hole below a number.
    return is_shape(shape(rows)) and numbers_unlike(rows) and all_rise(rows) and all_rise(turned(rows))


def numbers_unlike(rows):
    numbers = reading(rows)
    return len(set(numbers)) == len(numbers)


def all_rise(lines):
    return all([rises_behind_holes(line) for line in lines])


def rises_behind_holes(line):
    numbers = [number for number in line if number is not None]
    return line == [None] * holes_in(line) + sorted(numbers)


def holes_in(line):
    return line.count(None)


def slide(rows, at):
    if not is_holed(rows):
        raise NoStairs("these are no stairs with or without holes")
    if not can_slide(rows, at):
        raise NoPlace("this row has no hole that can be slid out")
    return slid(rows, at)


def can_slide(rows, at):
    if at < 0 or at >= len(rows) or holes_in(rows[at]) == 0:
        return False
    return at == len(rows) - 1 or holes_in(rows[at + 1]) < holes_in(rows[at])


def slid(rows, at):
    left = [list(row) for row in rows]
    hole_at = at
    place = holes_in(rows[at]) - 1
    while has_place(left, hole_at, place + 1) or has_place(left, hole_at + 1, place):
        if moves_up(left, hole_at, place):
            left[hole_at][place] = left[hole_at + 1][place]
            hole_at += 1
        else:
            left[hole_at][place] = left[hole_at][place + 1]
            place += 1
    left[hole_at].pop()
    return ([row for row in left if row], hole_at)


def has_place(rows, at, place):
    return at < len(rows) and place < len(rows[at])


def moves_up(rows, at, place):
    if not has_place(rows, at + 1, place):
        return False
    return not has_place(rows, at, place + 1) or rows[at + 1][place] < rows[at][place + 1]


def emptied(rows):
    if not is_holed(rows):
        raise NoStairs("these are no stairs with or without holes")
    # Every order of sliding comes to the first stairs of the reading, so none has to be chosen.
    return laid(reading(rows))[0]


def evacuated(rows):
    if not is_stairs(rows) or not does_count(rows):
        raise NoStairs("these are no stairs that count")
    left = rows
    evacuation = [[] for row in rows]
    for number in range(sum(shape(rows)), 0, -1):
        out = slid(with_hole_at_beginning(left), 0)
        left = out[0]
        # A row loses its places from its end on.
        evacuation[out[1]].insert(0, number)
    return evacuation


def with_hole_at_beginning(rows):
    return [[None] + rows[0][1:]] + rows[1:]
