import unittest
from math import factorial

from stairrows.counts import fillings, most_falling, most_rising, shapes
from stairrows.errors import NoNote, NoPair, NoPlace, NoShape, NoStairs, StairError
from tests.samples import (
    BEYOND, HUGE, check_keeps_nothing, check_refused, counted_rows, counting_stairs, mixed_row, spread,
)

HOW_MANY_SHAPES = (
    1, 1, 2, 3, 5, 7, 11, 15, 22, 30, 42, 56, 77, 101, 135, 176, 231, 297, 385, 490, 627, 792, 1002, 1255, 1575, 1958,
)
FORTY = (
    (40,), (1,) * 40, (20, 20), (8,) * 5, (5,) * 8, (2,) * 20, (39, 1), (2,) + (1,) * 38, (10, 10, 10, 10),
    (9, 8, 7, 6, 5, 4, 1), (12, 9, 7, 5, 3, 2, 1, 1), (20, 10, 5, 3, 1, 1),
)


def fillings_by_steps(lengths, known):
    """The fillings counted by the place of the greatest number, which is an end."""
    if not lengths:
        return 1
    if lengths not in known:
        known[lengths] = 0
        for at, length in enumerate(lengths):
            if at == len(lengths) - 1 or lengths[at + 1] < length:
                left = lengths[:at] + (length - 1,) + lengths[at + 1:]
                known[lengths] += fillings_by_steps(tuple(part for part in left if part), known)
    return known[lengths]


def most_by_trying(row, many, sign):
    """The most numbers that so many rising parts hold (falling ones for the sign -1), every choice tried."""
    # What is kept for each choice is the last number of each part alone, for the most numbers held.
    best = {(): 0}
    for number in [sign * number for number in row]:
        for lasts, held in list(best.items()):
            choices = [lasts[:k] + (number,) + lasts[k + 1:] for k in range(len(lasts)) if lasts[k] < number]
            if len(lasts) < many:
                choices.append(lasts + (number,))
            for choice in choices:
                key = tuple(sorted(choice))
                best[key] = max(best.get(key, 0), held + 1)
    return max(best.values())


class FillingsTest(unittest.TestCase):
    def check(self, lengths, answer):
        found = fillings(lengths)
        self.assertIs(type(found), int)
        self.assertEqual(found, answer, lengths)

    def test_the_empty_shape(self):
        self.check([], 1)

    def test_one_row_and_one_column(self):
        for many in (1, 2, 7, 40, 45):
            self.check([many], 1)
            self.check([1] * many, 1)

    def test_small_shapes(self):
        self.check([2, 1], 2)
        self.check([2, 2], 2)
        self.check([3, 1], 3)
        self.check([3, 2], 5)
        self.check([3, 2, 1], 16)
        self.check([4, 3, 2, 1], 768)
        self.check([5, 4, 3, 2, 1], 292864)

    def test_the_stairs_that_count_are_counted(self):
        for n in range(9):
            how_many = {}
            for rows in counting_stairs(n):
                lengths = tuple(len(row) for row in rows)
                how_many[lengths] = how_many.get(lengths, 0) + 1
            for lengths, answer in how_many.items():
                self.check(list(lengths), answer)

    def test_forty_places(self):
        known = {}
        for lengths in FORTY:
            self.assertEqual(sum(lengths), 40)
            self.check(list(lengths), fillings_by_steps(lengths, known))
        self.check([20, 20], 6564120420)

    def test_beyond_forty_places(self):
        self.check([23, 23], fillings_by_steps((23, 23), {}))
        self.check([9] * 5, fillings_by_steps((9,) * 5, {}))
        self.check([44, 1], 44)

    def test_no_shape(self):
        for lengths in ([0], [0, 0], [3, 0], [2, 1, 0], [-1], [2, -1], [-1, -2], [0, 1], [2, 0, 1], [1, 2], [3, 1, 2],
                        [5, 4, 4, 5], [1, HUGE], [-HUGE], [1, BEYOND], [HUGE, 0], [1] * 40 + [2], [1] * 40 + [0]):
            check_refused(self, NoShape, fillings, lengths)

    def test_the_refusal(self):
        with self.assertRaises(StairError) as caught:
            fillings([1, 2])
        self.assertIsInstance(caught.exception, NoShape)
        self.assertIsInstance(caught.exception, ValueError)
        self.assertNotIsInstance(caught.exception, (NoStairs, NoPair, NoPlace, NoNote))

    def test_keeps_nothing(self):
        for lengths in ([], [1], [3, 2, 1], [8] * 5):
            check_keeps_nothing(self, fillings, lengths)


class ShapesTest(unittest.TestCase):
    def test_small_counts_in_full(self):
        self.assertEqual(shapes(0), [[]])
        self.assertEqual(shapes(1), [[1]])
        self.assertEqual(shapes(2), [[2], [1, 1]])
        self.assertEqual(shapes(3), [[3], [2, 1], [1, 1, 1]])
        self.assertEqual(shapes(4), [[4], [3, 1], [2, 2], [2, 1, 1], [1, 1, 1, 1]])
        self.assertEqual(shapes(5), [[5], [4, 1], [3, 2], [3, 1, 1], [2, 2, 1], [2, 1, 1, 1], [1, 1, 1, 1, 1]])
        self.assertEqual(shapes(6), [
            [6], [5, 1], [4, 2], [4, 1, 1], [3, 3], [3, 2, 1], [3, 1, 1, 1], [2, 2, 2], [2, 2, 1, 1],
            [2, 1, 1, 1, 1], [1, 1, 1, 1, 1, 1],
        ])

    def test_all_of_them_in_order(self):
        for many, how_many in enumerate(HOW_MANY_SHAPES):
            found = shapes(many)
            self.assertIsInstance(found, list)
            self.assertEqual(len(found), how_many)
            for ahead, behind in zip(found, found[1:]):
                self.assertGreater(ahead, behind)
            for lengths in found:
                self.assertIsInstance(lengths, list)
                self.assertEqual(sum(lengths), many)
                self.assertEqual(lengths, sorted(lengths, reverse=True))
                self.assertTrue(all(length >= 1 for length in lengths))

    def test_the_squares_of_the_fillings(self):
        for many in range(21):
            self.assertEqual(sum(fillings(lengths) ** 2 for lengths in shapes(many)), factorial(many))

    def test_below_nought_there_are_none(self):
        self.assertEqual(shapes(-1), [])

    def test_keeps_nothing(self):
        for many in (0, 1, 2, 5, 8):
            check_keeps_nothing(self, shapes, many)

    def test_no_list_stands_twice_in_the_answer(self):
        found = shapes(7)
        self.assertEqual(len({id(lengths) for lengths in found}), len(found))


class MostTest(unittest.TestCase):
    def check(self, row, many, rising, falling):
        self.assertIs(type(most_rising(row, many)), int)
        self.assertIs(type(most_falling(row, many)), int)
        self.assertEqual(most_rising(row, many), rising, (row, many))
        self.assertEqual(most_falling(row, many), falling, (row, many))

    def test_the_empty_row(self):
        for many in (0, 1, 2, 40, 41):
            self.check([], many, 0, 0)

    def test_no_parts(self):
        for row in ([1], [1, 2, 3], [3, 2, 1], [5, 3, 4, 7, 1, 2, 6], mixed_row(40)):
            self.check(row, 0, 0, 0)
            self.check(row, -1, 0, 0)

    def test_one_part(self):
        self.check([7], 1, 1, 1)
        self.check([1, 2, 3], 1, 3, 1)
        self.check([3, 2, 1], 1, 1, 3)
        self.check([5, 3, 4, 7, 1, 2, 6], 1, 3, 3)
        self.check([2, 1, 4, 3, 6, 5], 1, 3, 2)

    def test_several_parts(self):
        self.check([5, 3, 4, 7, 1, 2, 6], 2, 6, 5)
        self.check([5, 3, 4, 7, 1, 2, 6], 3, 7, 7)
        self.check([2, 1, 4, 3, 6, 5], 2, 6, 4)
        self.check([2, 4, 7, 9, 5, 1, 3, 6, 8], 1, 5, 3)
        self.check([2, 4, 7, 9, 5, 1, 3, 6, 8], 2, 8, 5)

    def test_more_parts_than_rows(self):
        for row in ([7], [1, 2, 3], [3, 2, 1], [5, 3, 4, 7, 1, 2, 6]):
            for many in (len(row), len(row) + 1, 40, 41, 50):
                self.check(row, many, len(row), len(row))

    def test_every_choice_tried(self):
        for row in counted_rows(5):
            for many in range(len(row) + 2):
                rising = most_by_trying(row, many, 1)
                falling = most_by_trying(row, many, -1)
                self.check(row, many, rising, falling)
                self.check(spread([row])[0], many, rising, falling)

    def test_forty_numbers_and_beyond(self):
        for size in (40, 46):
            for many in (1, 2, 3):
                row = mixed_row(size)
                self.check(row, many, most_by_trying(row, many, 1), most_by_trying(row, many, -1))
            for many in range(42):
                rising = list(range(size))
                self.check(rising, many, size if many else 0, min(many, size))
                self.check(rising[::-1], many, min(many, size), size if many else 0)
        blocks = [HUGE - 100 * at + place for at in range(5) for place in range(8)]
        for many in range(41):
            self.check(blocks, many, 8 * min(many, 5), 5 * min(many, 8))

    def test_very_large_numbers(self):
        self.check([HUGE, -HUGE, BEYOND, -BEYOND], 1, 2, 3)
        self.check([HUGE, -HUGE, BEYOND, -BEYOND], 2, 3, 4)

    def test_keeps_nothing(self):
        for row in ([], [1], [5, 3, 4, 7, 1, 2, 6]):
            for many in (0, 1, 2, 40):
                check_keeps_nothing(self, most_rising, list(row), many)
                check_keeps_nothing(self, most_falling, list(row), many)


if __name__ == "__main__":
    unittest.main()
