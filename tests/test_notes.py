import re
import unittest
from itertools import product

from stairrows.errors import NoNote, NoPair, NoPlace, NoShape, NoStairs, StairError
from stairrows.notes import read, written
from tests.samples import (
    BEYOND, HUGE, block, check_keeps_nothing, check_refused, counting_stairs, holed_stairs, is_holed_by_words, spread,
)

NOTES = (
    ([], ""),
    ([[1]], "1"),
    ([[0]], "0"),
    ([[-7]], "-7"),
    ([[None]], "."),
    ([[None, None], [None]], ". .\n."),
    ([[1, 2, 3]], "1 2 3"),
    ([[1], [2], [3]], "1\n2\n3"),
    ([[1, 3], [2]], "1 3\n2"),
    ([[None, None, 2], [None, 1], [4]], ". . 2\n. 1\n4"),
    ([[None, 5], [None]], ". 5\n."),
    ([[-10, 0, 10], [-9, 100]], "-10 0 10\n-9 100"),
    ([[-HUGE, HUGE]], "-" + "9" * 30 + " " + "9" * 30),
    ([[None, BEYOND]], ". 1" + "0" * 40),
    ([[10, 20], [101]], "10 20\n101"),
)

NO_NOTES = (
    # Line ends and empty lines.
    "\n", "1\n", "\n1", "1\n\n2", "1 2\n\n3", "1 3\n2\n", ".\n", "\n\n", "1\n2\n\n",
    # Blanks and tabs.
    " ", "  ", " 1", "1 ", "1  2", "1 3 \n2", "1 3\n 2", ".  .", "\t", "1\t2", "\t1", "1\t", "1 \t2", ".\t1", "1 2\t\n3",
    # Other forms of numbers.
    "+1", "+0", "1 +2", "-0", "-0 1", "00", "01", "007", "-01", "-00", "1 02", "--1", "-", "+", "- 1", "1-", "1-2", "+-1",
    "-+1", "1_0", "1_000", "0x1", "0b1", "1e3", "1.0", "1.", ".1", "-.", "0.", "1,2", "1;2", "(1)", "[[1]]", "'1'",
    # Other words.
    "x", "a b", "None", "..", ". ..", "...", "*", "~", "!", "1 x", "x 1", "1\nx", "\\n", "1\\n2", "one", "/", ":", "?",
    # Rows that are no stairs with or without holes.
    "2 1", "1 1", "2\n1", "1\n1", "1\n2 3", "1 4\n2 3", "1 2\n2", "1 .", ". 1 .", "1\n.", ". 1\n. .", "1 2\n. 3",
    ".\n. .", ". 2 1", ". 3\n1 2", ". 1\n1", ". 4\n3\n4", "-1 -2", "0 -1", "10 9", "100 20",
)


def rows_by_words(text):
    """The rows that a text writes as the document's words tell it; None where it writes none."""
    if text == "":
        return []
    word = r"(\.|0|-?[1-9][0-9]*)"
    line = f"{word}( {word})*"
    if not re.fullmatch(f"{line}(\n{line})*", text):
        return None
    rows = [[None if part == "." else int(part) for part in row.split(" ")] for row in text.split("\n")]
    return rows if is_holed_by_words(rows) else None


class WrittenTest(unittest.TestCase):
    def test_texts(self):
        for rows, text in NOTES:
            self.assertEqual(written(rows), text)
            self.assertIs(type(written(rows)), str)

    def test_forty_places_and_beyond(self):
        for many in (40, 45):
            numbers = list(range(many))
            self.assertEqual(written([numbers]), " ".join(str(number) for number in numbers))
            self.assertEqual(written([[number] for number in numbers]), "\n".join(str(number) for number in numbers))

    def test_keeps_nothing(self):
        for rows, text in NOTES:
            check_keeps_nothing(self, written, [list(row) for row in rows])


class ReadTest(unittest.TestCase):
    def check(self, text, rows):
        found = read(text)
        self.assertIsInstance(found, list)
        self.assertEqual(found, rows)

    def test_texts(self):
        for rows, text in NOTES:
            self.check(text, rows)

    def test_there_and_back(self):
        for n in range(7):
            for counting in holed_stairs(n) + counting_stairs(n):
                for rows in (counting, spread(counting)):
                    self.check(written(rows), rows)

    def test_forty_places_and_beyond(self):
        for height, width in ((1, 40), (40, 1), (5, 8), (1, 45), (45, 1)):
            rows = block(height, width)
            self.check(written(rows), rows)
            rows[0][0] = None
            self.check(written(rows), rows)

    def test_every_kind_of_refused_text(self):
        for text in NO_NOTES:
            check_refused(self, NoNote, read, text)

    def test_every_short_text(self):
        read_ones = 0
        for many in range(6):
            for signs in product("012. \n-+\t", repeat=many):
                text = "".join(signs)
                rows = rows_by_words(text)
                if rows is None:
                    check_refused(self, NoNote, read, text)
                else:
                    self.check(text, rows)
                    read_ones += 1
        self.assertGreater(read_ones, 500)

    def test_each_sign_alone(self):
        for sign in ["\t", "\n"] + [chr(code) for code in range(32, 127)]:
            if sign in "0123456789":
                self.check(sign, [[int(sign)]])
            elif sign == ".":
                self.check(sign, [[None]])
            else:
                check_refused(self, NoNote, read, sign)
                check_refused(self, NoNote, read, "1" + sign)
                check_refused(self, NoNote, read, "1" + sign + " 2")

    def test_the_refusal(self):
        for text in ("1 ", "x", "2 1", "-0", "1\n"):
            with self.assertRaises(StairError) as caught:
                read(text)
            self.assertIsInstance(caught.exception, NoNote)
            self.assertIsInstance(caught.exception, ValueError)
            self.assertNotIsInstance(caught.exception, (NoStairs, NoPair, NoPlace, NoShape))

    def test_keeps_nothing(self):
        for rows, text in NOTES:
            check_keeps_nothing(self, read, text)


if __name__ == "__main__":
    unittest.main()
