"""Stairs, with holes or without, written as a text and read from one."""

from stairrows.errors import NoNote
from stairrows.slides import is_holed

HOLE = "."


def written(rows):
    return "\n".join([line_of(row) for row in rows])


def line_of(row):
    return " ".join([word_of(number) for number in row])


def word_of(number):
    return HOLE if number is None else str(number)


def read(text):
    rows = [row_of(line) for line in lines_of(text)]
    if not is_holed(rows):
        raise NoNote("the rows of this text are no stairs with or without holes")
    return rows


def lines_of(text):
    # Splitting would make one empty line of the empty text, which has no line at all.
    return text.split("\n") if text else []


def row_of(line):
    return [number_of(word) for word in line.split(" ")]


def number_of(word):
    if word == HOLE:
        return None
    try:
        number = int(word)
    except ValueError:
        raise NoNote("a word of this text is neither a hole nor a number") from None
    # Python reads more forms of a number than the one that is written.
    if word_of(number) != word:
        raise NoNote("a number of this text is not written in its plain form")
    return number
