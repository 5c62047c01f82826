import unittest
from itertools import product

from stairrows.stairs import is_shape, is_stairs, reading, shape, turned
from tests.samples import (
    BEYOND, HUGE, block, check_keeps_nothing, counting_stairs, is_stairs_by_words, spread,
)


class IsShapeTest(unittest.TestCase):
    def check(self, lengths, answer):
        self.assertIs(is_shape(lengths), answer, lengths)

    def test_shapes(self):
        for lengths in ([], [1], [7], [1, 1], [3, 3], [4, 2, 2, 1], [5, 4, 3, 2, 1]):
            self.check(lengths, True)

    def test_a_length_below_one(self):
        for lengths in ([0], [0, 0], [3, 0], [2, 1, 0], [-1], [2, -1], [-1, -2], [-HUGE]):
            self.check(lengths, False)

    def test_a_nought_among_the_lengths(self):
        for lengths in ([0, 1], [2, 0, 1], [2, 0, 0]):
            self.check(lengths, False)

    def test_a_length_greater_than_the_one_ahead(self):
        for lengths in ([1, 2], [3, 1, 2], [5, 4, 4, 5], [2, 2, 3], [1, HUGE]):
            self.check(lengths, False)

    def test_forty_places_and_beyond(self):
        for many in (40, 43):
            self.check([many], True)
            self.check([1] * many, True)
            self.check([1] * many + [2], False)
            self.check([1] * many + [0], False)
        self.check([8, 8, 8, 8, 8], True)
        self.check([HUGE, HUGE, 1], True)
        self.check([BEYOND, HUGE], True)
        self.check([HUGE, BEYOND], False)

    def test_every_short_list_of_small_lengths(self):
        for many in range(5):
            for lengths in product(range(-1, 4), repeat=many):
                steps = all(lengths[k] >= lengths[k + 1] for k in range(many - 1))
                self.check(list(lengths), steps and all(length >= 1 for length in lengths))

    def test_keeps_nothing(self):
        for lengths in ([], [4, 2, 2, 1], [1, 2]):
            check_keeps_nothing(self, is_shape, lengths)


class IsStairsTest(unittest.TestCase):
    def check(self, rows, answer):
        self.assertIs(is_stairs(rows), answer, rows)

    def test_stairs(self):
        for rows in ([], [[1]], [[5]], [[1, 2, 3]], [[1], [2], [3]], [[1, 3], [2]], [[1, 2, 9], [4, 5], [6]],
                     [[2, 4], [7, 8]]):
            self.check(rows, True)

    def test_a_row_of_nought_places(self):
        for rows in ([[]], [[], []], [[1], []], [[], [1]], [[1, 2], [], [3]], [[1, 2], [3], []]):
            self.check(rows, False)

    def test_a_row_longer_than_the_one_ahead(self):
        for rows in ([[1], [2, 3]], [[1, 2, 3], [4], [5, 6]], [[1, 2], [3, 4], [5, 6, 7]]):
            self.check(rows, False)

    def test_a_row_that_does_not_rise(self):
        for rows in ([[2, 1]], [[1, 1]], [[1, 3, 2]], [[1, 2], [4, 3]], [[1, 2, 3], [4, 6, 5]], [[3, 2, 1]]):
            self.check(rows, False)

    def test_a_column_that_does_not_rise(self):
        for rows in ([[2], [1]], [[1], [1]], [[1, 5], [2, 4]], [[1, 2], [3, 5], [4], [0]], [[2, 3], [1]],
                     [[1, 4, 5], [2, 3]]):
            self.check(rows, False)

    def test_two_alike_far_from_one_another(self):
        for rows in ([[1, 2, 5], [3, 6], [5]], [[1, 3], [3]], [[1, 2, 3, 9], [4, 5], [9]],
                     [[-3, 0, HUGE], [HUGE]], [[1, 2, 4, 6], [3, 5, 6]]):
            self.check(rows, False)

    def test_negative_and_very_large_numbers(self):
        self.check([[-HUGE, -5, 0], [-4, HUGE]], True)
        self.check([[-5, -HUGE]], False)
        self.check([[-HUGE], [HUGE - 1], [HUGE]], True)
        self.check([[-HUGE], [HUGE], [HUGE - 1]], False)
        self.check([[-BEYOND, HUGE, BEYOND, BEYOND + 1]], True)
        self.check([[HUGE, HUGE]], False)

    def test_forty_places_and_beyond(self):
        for height, width in ((1, 40), (40, 1), (5, 8), (8, 5), (1, 45), (45, 1)):
            self.check(block(height, width), True)
            last_spoiled = block(height, width)
            last_spoiled[-1][-1] = 0
            self.check(last_spoiled, False)
            first_spoiled = block(height, width)
            first_spoiled[0][0] = height * width + 1
            self.check(first_spoiled, False)

    def test_stairs_of_up_to_six_places(self):
        for n in range(7):
            for rows in counting_stairs(n):
                self.check(rows, True)
                self.check(spread(rows), True)

    def test_every_small_list_of_rows(self):
        rows_of = [list(row) for many in range(4) for row in product(range(1, 4), repeat=many)]
        for height in range(3):
            for rows in product(rows_of, repeat=height):
                self.check(list(rows), is_stairs_by_words(rows))
        for lengths in ((2, 2), (2, 1, 1), (3, 1), (1, 2), (1, 1, 1)):
            for numbers in product(range(1, 5), repeat=sum(lengths)):
                rest = list(numbers)
                rows = [[rest.pop() for place in range(length)] for length in lengths]
                self.check(rows, is_stairs_by_words(rows))

    def test_keeps_nothing(self):
        for rows in ([], [[1, 3], [2]], [[2, 1]], [[1], [2, 3]], [[1], []]):
            check_keeps_nothing(self, is_stairs, rows)


class ShapeTest(unittest.TestCase):
    def test_shapes(self):
        self.assertEqual(shape([]), [])
        self.assertEqual(shape([[4, 5, 9]]), [3])
        self.assertEqual(shape([[4], [5], [9]]), [1, 1, 1])
        self.assertEqual(shape([[1, 2, 5, 9], [3, 4], [6, 8], [7]]), [4, 2, 2, 1])
        self.assertEqual(shape(block(5, 8)), [8] * 5)
        self.assertEqual(shape(block(45, 1)), [1] * 45)

    def test_keeps_nothing(self):
        for rows in ([], [[1, 3], [2]]):
            check_keeps_nothing(self, shape, rows)


class ReadingTest(unittest.TestCase):
    def test_readings(self):
        self.assertEqual(reading([]), [])
        self.assertEqual(reading([[4, 5, 9]]), [4, 5, 9])
        self.assertEqual(reading([[4], [5], [9]]), [9, 5, 4])
        self.assertEqual(reading([[1, 2, 5, 9], [3, 4], [6, 8], [7]]), [7, 6, 8, 3, 4, 1, 2, 5, 9])
        self.assertEqual(reading([[-HUGE, 0], [HUGE]]), [HUGE, -HUGE, 0])

    def test_forty_places_and_beyond(self):
        self.assertEqual(reading(block(1, 45)), list(range(1, 46)))
        self.assertEqual(reading(block(45, 1)), list(range(45, 0, -1)))
        self.assertEqual(reading(block(2, 20)), list(range(21, 41)) + list(range(1, 21)))

    def test_holes_are_left_out(self):
        self.assertEqual(reading([[None, None, 2], [None, 1], [4]]), [4, 1, 2])
        self.assertEqual(reading([[None, 0], [None]]), [0])

    def test_keeps_nothing(self):
        for rows in ([], [[4, 5, 9]], [[1, 3], [2]]):
            check_keeps_nothing(self, reading, rows)


class TurnedTest(unittest.TestCase):
    def test_turned(self):
        self.assertEqual(turned([]), [])
        self.assertEqual(turned([[6]]), [[6]])
        self.assertEqual(turned([[4, 5, 9]]), [[4], [5], [9]])
        self.assertEqual(turned([[4], [5], [9]]), [[4, 5, 9]])
        self.assertEqual(turned([[1, 2, 5, 9], [3, 4], [6, 8], [7]]), [[1, 3, 6, 7], [2, 4, 8], [5], [9]])
        self.assertEqual(turned([[-HUGE, 0], [HUGE]]), [[-HUGE, HUGE], [0]])

    def test_forty_places_and_beyond(self):
        self.assertEqual(turned(block(45, 1)), block(1, 45))
        self.assertEqual(turned(block(1, 45)), block(45, 1))
        self.assertEqual(turned(block(5, 8))[7], [8, 16, 24, 32, 40])

    def test_turned_twice_gives_the_same_rows(self):
        for n in range(7):
            for rows in counting_stairs(n):
                self.assertEqual(turned(turned(rows)), rows)
                self.assertEqual(turned(turned(spread(rows))), spread(rows))

    def test_each_number_goes_from_its_row_to_its_column(self):
        for rows in counting_stairs(6):
            places = {number: (at, place) for at, row in enumerate(rows) for place, number in enumerate(row)}
            for at, row in enumerate(turned(rows)):
                for place, number in enumerate(row):
                    self.assertEqual(places[number], (place, at))

    def test_keeps_nothing(self):
        for rows in ([], [[6]], [[4, 5, 9]], [[4], [5]], [[1, 3], [2]]):
            check_keeps_nothing(self, turned, rows)


if __name__ == "__main__":
    unittest.main()
