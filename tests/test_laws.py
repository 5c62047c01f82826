import unittest
from itertools import permutations

from stairrows.laying import laid
from stairrows.stairs import reading, turned
from tests.samples import HUGE, counted_rows, counting_stairs, exchanged, joined, spread


def places(row):
    return [row.index(number) + 1 for number in range(1, len(row) + 1)]


class TurningTest(unittest.TestCase):
    def test_the_row_of_places_has_the_two_exchanged(self):
        for row in counted_rows(5):
            first, second = laid(row)
            self.assertEqual(laid(places(row)), (second, first))

    def test_the_row_of_places_of_forty_numbers(self):
        row = [k * 7 % 41 for k in range(1, 41)]
        first, second = laid(row)
        self.assertEqual(laid(places(row)), (second, first))

    def test_the_row_turned_about_has_the_first_turned(self):
        for row in counted_rows(5):
            for numbers in (row, spread([row])[0]):
                self.assertEqual(laid(numbers[::-1])[0], turned(laid(numbers)[0]))

    def test_forty_numbers_turned_about(self):
        row = [k * 7 % 41 * 10 ** 28 - HUGE // 2 for k in range(1, 41)]
        self.assertEqual(laid(row[::-1])[0], turned(laid(row)[0]))


class ExchangeTest(unittest.TestCase):
    def test_exchanges_keep_the_first_stairs(self):
        for row in counted_rows(6):
            first = laid(row)[0]
            for other in exchanged(row):
                self.assertEqual(laid(other)[0], first)

    def test_exchanges_of_other_numbers(self):
        for row in permutations((-HUGE, -3, 0, 8, HUGE)):
            first = laid(list(row))[0]
            for other in exchanged(list(row)):
                self.assertEqual(laid(other)[0], first)

    def test_the_same_first_stairs_means_joined(self):
        for n in range(7):
            groups = {}
            for row in permutations(range(1, n + 1)):
                groups.setdefault(repr(laid(list(row))[0]), set()).add(row)
            for group in groups.values():
                self.assertEqual(joined(list(min(group))), group)

    def test_the_reading_is_joined_to_the_row(self):
        for n in range(7):
            for rows in counting_stairs(n):
                self.assertEqual(laid(reading(rows))[0], rows)


if __name__ == "__main__":
    unittest.main()
