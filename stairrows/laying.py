"""Numbers laid into stairs, one alone or a whole row."""

from stairrows.stairs import how_many_less, with_number_at


def lay_in(rows, number):
    above = []
    moving = number
    for at, row in enumerate(rows):
        place = how_many_less(row, moving)
        if place == len(row):
            # The rows below are copied, so that the answer shares no list with what was handed in.
            below = [list(other) for other in rows[at + 1:]]
            return (above + [row + [moving]] + below, at)
        above.append(with_number_at(row, place, moving))
        moving = row[place]
    return (above + [[moving]], len(rows))


def laid(row):
    first = []
    second = []
    for count, number in enumerate(row, start=1):
        grown = lay_in(first, number)
        first = grown[0]
        put_at_end(second, grown[1], count)
    return (first, second)


def put_at_end(rows, at, number):
    if at == len(rows):
        rows.append([])
    rows[at].append(number)
