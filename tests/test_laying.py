import unittest
from itertools import combinations

from stairrows.laying import laid, lay_in
from tests.samples import (
    BEYOND, HUGE, check_keeps_nothing, counted_rows, counting_stairs, is_stairs_by_words, spread,
)


def longest(row, rises):
    """How many numbers the longest rising (or falling) part of a row has, all parts tried."""
    for many in range(len(row), 0, -1):
        for part in combinations(row, many):
            if list(part) == sorted(part, reverse=not rises):
                return many
    return 0


class LayInTest(unittest.TestCase):
    def check(self, rows, number, answer):
        found = lay_in(rows, number)
        self.assertIsInstance(found, tuple)
        self.assertEqual(found, answer)

    def test_into_the_empty_list(self):
        self.check([], 5, ([[5]], 0))
        self.check([], 0, ([[0]], 0))
        self.check([], -HUGE, ([[-HUGE]], 0))

    def test_at_a_rows_end(self):
        self.check([[1, 2], [3]], 4, ([[1, 2, 4], [3]], 0))
        self.check([[1, 5], [3]], 4, ([[1, 4], [3, 5]], 1))
        self.check([[1, 4, 6], [2, 5]], 3, ([[1, 3, 6], [2, 4], [5]], 2))

    def test_the_first_number_that_is_greater_goes(self):
        self.check([[1, 4, 6, 8]], 5, ([[1, 4, 5, 8], [6]], 1))
        self.check([[2, 4, 6, 8]], 1, ([[1, 4, 6, 8], [2]], 1))
        self.check([[2, 4, 6, 8]], 7, ([[2, 4, 6, 7], [8]], 1))

    def test_pushed_down_through_several_rows(self):
        self.check([[1, 3, 8], [4, 7], [6, 9]], 2, ([[1, 2, 8], [3, 7], [4, 9], [6]], 3))
        self.check([[2, 3], [5, 6], [8, 9]], 1, ([[1, 3], [2, 6], [5, 9], [8]], 3))
        self.check([[1, 4, 9], [2, 7], [8]], 3, ([[1, 3, 9], [2, 4], [7], [8]], 3))

    def test_stops_at_an_end_ahead_of_the_last_row(self):
        self.check([[1, 4, 7], [2, 5], [3, 6], [8]], 6, ([[1, 4, 6], [2, 5, 7], [3, 6], [8]], 1))

    def test_a_new_row_is_begun(self):
        self.check([[5]], 4, ([[4], [5]], 1))
        self.check([[2], [3], [4]], 1, ([[1], [2], [3], [4]], 3))

    def test_the_least_and_the_greatest_number(self):
        rows = [[-3, 0, 4], [1, 5], [2]]
        self.check(rows, -HUGE, ([[-HUGE, 0, 4], [-3, 5], [1], [2]], 3))
        self.check(rows, HUGE, ([[-3, 0, 4, HUGE], [1, 5], [2]], 0))
        self.check([[HUGE - 1, HUGE]], HUGE - 2, ([[HUGE - 2, HUGE], [HUGE - 1]], 1))
        self.check([[HUGE, BEYOND]], BEYOND - 1, ([[HUGE, BEYOND - 1], [BEYOND]], 1))

    def test_forty_places_and_beyond(self):
        for many in (39, 40, 45):
            rows = [[k] for k in range(1, many + 1)]
            self.check(rows, 0, ([[k] for k in range(many + 1)], many))
            self.check([list(range(many))], many, ([list(range(many + 1))], 0))

    def test_what_comes_is_stairs_grown_at_one_end(self):
        for n in range(6):
            for rows in counting_stairs(n):
                twice = [[2 * number for number in row] for row in rows]
                for number in range(1, 2 * n + 2, 2):
                    grown, at = lay_in(twice, number)
                    self.assertTrue(is_stairs_by_words(grown), (twice, number, grown))
                    lengths = [len(row) for row in twice] + [0]
                    lengths[at] += 1
                    self.assertEqual([len(row) for row in grown], [length for length in lengths if length])
                    self.assertEqual(sorted(sum(grown, [])), sorted(sum(twice, []) + [number]))

    def test_keeps_nothing(self):
        for rows, number in (([], 5), ([[1, 2], [3]], 4), ([[1, 5], [3]], 4), ([[5]], 4),
                             ([[1, 4, 7], [2, 5], [3, 6], [8]], 6), ([[2, 3], [5, 6], [8, 9]], 1)):
            check_keeps_nothing(self, lay_in, rows, number)


class LaidTest(unittest.TestCase):
    def check(self, row, first, second):
        found = laid(row)
        self.assertIsInstance(found, tuple)
        self.assertEqual(found, (first, second))

    def test_the_empty_row(self):
        self.check([], [], [])

    def test_one_number(self):
        self.check([-7], [[-7]], [[1]])

    def test_a_rising_row(self):
        self.check([2, 5, 9], [[2, 5, 9]], [[1, 2, 3]])

    def test_a_falling_row(self):
        self.check([9, 5, 2], [[2], [5], [9]], [[1], [2], [3]])

    def test_mixed_rows(self):
        self.check([5, 3, 4, 7, 1, 2, 6], [[1, 2, 6], [3, 4, 7], [5]], [[1, 3, 4], [2, 6, 7], [5]])
        self.check([2, 1, 4, 3], [[1, 3], [2, 4]], [[1, 3], [2, 4]])
        self.check([4, 1, 3, 2], [[1, 2], [3], [4]], [[1, 3], [2], [4]])
        self.check([3, 1, 2], [[1, 2], [3]], [[1, 3], [2]])
        self.check([2, 3, 1], [[1, 3], [2]], [[1, 2], [3]])

    def test_other_numbers(self):
        self.check([HUGE, -HUGE, 0, -4], [[-HUGE, -4], [0], [HUGE]], [[1, 3], [2], [4]])
        self.check([30, 10, 20], [[10, 20], [30]], [[1, 3], [2]])
        self.check([BEYOND, -BEYOND], [[-BEYOND], [BEYOND]], [[1], [2]])

    def test_forty_numbers_and_beyond(self):
        for many in (40, 45):
            rising = list(range(many))
            counts = list(range(1, many + 1))
            self.check(rising, [rising], [counts])
            self.check(rising[::-1], [[k] for k in rising], [[k] for k in counts])
        falling_blocks = [HUGE - 100 * at + place for at in range(5) for place in range(8)]
        blocks = [falling_blocks[at * 8:at * 8 + 8] for at in range(5)]
        self.check(falling_blocks, blocks[::-1], [[at * 8 + place + 1 for place in range(8)] for at in range(5)])

    def test_both_are_stairs_of_one_shape(self):
        mixed = [(17 * k * k + 5 * k) % 41 * 10 ** 28 + k for k in range(40)]
        for row in counted_rows(6) + [mixed]:
            first, second = laid(row)
            self.assertTrue(is_stairs_by_words(first))
            self.assertTrue(is_stairs_by_words(second))
            self.assertEqual([len(part) for part in first], [len(part) for part in second])
            self.assertEqual(sorted(sum(first, [])), sorted(row))
            self.assertEqual(sorted(sum(second, [])), list(range(1, len(row) + 1)))

    def test_the_first_row_and_column_are_as_long_as_the_longest_parts(self):
        for row in counted_rows(6):
            first = laid(row)[0]
            self.assertEqual(len(first[0]) if first else 0, longest(row, True))
            self.assertEqual(len(first), longest(row, False))

    def test_the_second_tells_where_the_first_grew(self):
        for row in counted_rows(5):
            second = laid(row)[1]
            for many in range(len(row) + 1):
                so_far = [[count for count in part if count <= many] for part in second]
                lengths = [len(part) for part in so_far if part]
                self.assertEqual([len(part) for part in laid(row[:many])[0]], lengths)

    def test_every_pair_comes_once(self):
        for n in range(6):
            pairs = [laid(row) for row in counted_rows(n) if len(row) == n]
            stairs = counting_stairs(n)
            asked = [(first, second) for first in stairs for second in stairs
                     if [len(part) for part in first] == [len(part) for part in second]]
            self.assertEqual(sorted(pairs), sorted(asked))

    def test_only_the_order_of_the_numbers_counts(self):
        for row in counted_rows(5):
            other = spread([row])[0]
            self.assertEqual(laid(other), (spread(laid(row)[0]), laid(row)[1]))

    def test_keeps_nothing(self):
        for row in ([], [1], [5, 3, 4, 7, 1, 2, 6], [3, 2, 1]):
            check_keeps_nothing(self, laid, row)


if __name__ == "__main__":
    unittest.main()
