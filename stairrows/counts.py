"""How many fillings a shape has, which shapes there are, and how much the rising and falling parts of a row hold."""

from stairrows.errors import NoShape
from stairrows.laying import laid
from stairrows.stairs import is_shape, shape, turned


def fillings(lengths):
    if not is_shape(lengths):
        raise NoShape("these lengths are no shape")
    return product(list(range(1, sum(lengths) + 1))) // product(reaches(lengths))


def product(numbers):
    outcome = 1
    for number in numbers:
        outcome *= number
    return outcome


def reaches(lengths):
    found = []
    for at, length in enumerate(lengths):
        # What is to the right is counted with the place itself, what is below without it: it counts once.
        found.extend([length - place + how_many_below(lengths, at, place) for place in range(length)])
    return found


def how_many_below(lengths, at, place):
    return len([length for length in lengths[at + 1:] if length > place])


def shapes(many):
    return shapes_within(many, many)


def shapes_within(many, longest):
    if many == 0:
        return [[]]
    found = []
    for length in range(min(many, longest), 0, -1):
        found.extend([[length] + rest for rest in shapes_within(many - length, length)])
    return found


def most_rising(row, many):
    return sum_of_first(shape(laid(row)[0]), many)


def most_falling(row, many):
    return sum_of_first(shape(turned(laid(row)[0])), many)


def sum_of_first(lengths, many):
    # A slice to below nought would count from the end: fewer parts than none hold nothing.
    return sum(lengths[:max(many, 0)])
