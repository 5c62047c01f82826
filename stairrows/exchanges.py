"""Neighbours of a row exchanged, and the chain that leads to the reading of the row's first stairs."""

from stairrows.laying import lay_in
from stairrows.stairs import how_many_less, reading


def next_rows(row):
    return [exchanged(row, place) for place in range(len(row) - 1) if may_exchange(row, place)]


def may_exchange(row, place):
    lesser = min(row[place], row[place + 1])
    greater = max(row[place], row[place + 1])
    ahead = row[max(place - 1, 0):place]
    behind = row[place + 2:place + 3]
    return any([lesser < number < greater for number in ahead + behind])


def exchanged(row, place):
    return row[:place] + [row[place + 1], row[place]] + row[place + 2:]


def chain(row):
    links = [list(row)]
    first = []
    for number in row:
        # The last link begins with the reading of what is laid so far, and the number stands next behind it.
        for place in places_of_laying(first, number):
            links.append(exchanged(links[-1], place))
        first = lay_in(first, number)[0]
    return links


def places_of_laying(rows, number):
    places = []
    begin = len(reading(rows))
    moving = number
    for row in rows:
        greater = how_many_less(row, moving)
        if greater == len(row):
            return places
        begin -= len(row)
        # The moving number passes all those behind the first greater one, which lies between it and them.
        # Then the greater one passes all those ahead of it, where the one next behind lies between: so it
        # comes to stand behind the next row. These two themselves are never exchanged.
        steps = [begin + step for step in range(len(row)) if step != greater]
        places.extend(list(reversed(steps)))
        moving = row[greater]
    return places
