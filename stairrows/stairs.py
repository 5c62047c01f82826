"""What a shape is, what stairs are, and how stairs are read and turned."""


def is_shape(lengths):
    return lengths == sorted(lengths, reverse=True) and all([length >= 1 for length in lengths])


def is_stairs(rows):
    # Turning and rising hang on what is asked ahead of them: columns are found only where the
    # lengths are a shape, and a sorted row rises only where no two numbers are alike.
    return is_shape(shape(rows)) and all_unlike(rows) and all_sorted(rows) and all_sorted(turned(rows))


def all_unlike(rows):
    # Beside the number of places, not beside the reading's length: a hole is no number.
    return len(set(reading(rows))) == sum(shape(rows))


def all_sorted(rows):
    return all([row == sorted(row) for row in rows])


def does_count(rows):
    numbers = reading(rows)
    return sorted(numbers) == list(range(1, len(numbers) + 1))


def shape(rows):
    return [len(row) for row in rows]


def reading(rows):
    numbers = []
    for row in reversed(rows):
        # Stairs with holes are read too, and their reading leaves the holes out.
        numbers.extend([number for number in row if number is not None])
    return numbers


def turned(rows):
    width = len(rows[0]) if rows else 0
    return [column(rows, place) for place in range(width)]


def column(rows, place):
    return [row[place] for row in rows if place < len(row)]


def how_many_less(row, number):
    # A row of stairs rises: so this is also the place of its first number that is greater,
    # and one beyond the place of its last number that is less.
    return len([other for other in row if other < number])


def with_number_at(row, place, number):
    return row[:place] + [number] + row[place + 1:]
