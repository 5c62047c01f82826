import unittest

from stairrows.errors import NoNote, NoPair, NoPlace, NoShape, NoStairs, StairError
from stairrows.laying import laid, lay_in
from stairrows.taking import take_out, taken
from tests.samples import (
    BEYOND, HUGE, block, check_keeps_nothing, check_refused, counted_rows, counting_stairs, is_stairs_by_words,
    spread,
)


def ends(rows):
    """The rows whose end can be taken out."""
    lengths = [len(row) for row in rows] + [0]
    return [at for at in range(len(rows)) if lengths[at + 1] < lengths[at]]


class TakeOutTest(unittest.TestCase):
    def check(self, rows, at, answer):
        found = take_out(rows, at)
        self.assertIsInstance(found, tuple)
        self.assertEqual(found, answer)

    def test_from_the_first_row(self):
        self.check([[5]], 0, ([], 5))
        self.check([[1, 2, 4], [3]], 0, ([[1, 2], [3]], 4))
        self.check([[1, 2, 4]], 0, ([[1, 2]], 4))

    def test_through_the_rows_above(self):
        self.check([[1, 4], [3, 5]], 1, ([[1, 5], [3]], 4))
        self.check([[1, 3, 6], [2, 4], [5]], 2, ([[1, 4, 6], [2, 5]], 3))
        self.check([[1, 2, 8], [3, 7], [4, 9], [6]], 3, ([[1, 3, 8], [4, 7], [6, 9]], 2))

    def test_the_last_number_that_is_less_goes(self):
        self.check([[1, 2, 3, 5], [4]], 1, ([[1, 2, 4, 5]], 3))
        self.check([[1, 3, 4, 5], [2]], 1, ([[2, 3, 4, 5]], 1))
        self.check([[1, 2, 3, 4], [5]], 1, ([[1, 2, 3, 5]], 4))

    def test_rows_below_stay(self):
        self.check([[1, 3, 6], [2, 4, 9], [5], [7]], 1, ([[1, 3, 9], [2, 4], [5], [7]], 6))

    def test_a_row_that_becomes_empty_is_gone(self):
        self.check([[1], [2], [3]], 2, ([[2], [3]], 1))
        self.check([[1, 2], [3]], 1, ([[1, 3]], 2))

    def test_each_end_of_one_stairs(self):
        rows = [[1, 2, 5, 9], [3, 4], [6, 8], [7]]
        self.check(rows, 0, ([[1, 2, 5], [3, 4], [6, 8], [7]], 9))
        self.check(rows, 2, ([[1, 4, 5, 9], [3, 8], [6], [7]], 2))
        self.check(rows, 3, ([[1, 4, 5, 9], [3, 6], [7, 8]], 2))
        check_refused(self, NoPlace, take_out, rows, 1)

    def test_very_large_numbers(self):
        self.check([[-HUGE, HUGE - 1], [HUGE]], 1, ([[-HUGE, HUGE]], HUGE - 1))
        self.check([[-BEYOND], [BEYOND]], 1, ([[BEYOND]], -BEYOND))

    def test_forty_places_and_beyond(self):
        for many in (40, 45):
            column = [[k] for k in range(many)]
            self.check(column, many - 1, (column[1:], 0))
            check_refused(self, NoPlace, take_out, column, 0)
            check_refused(self, NoPlace, take_out, column, many)
            self.check([list(range(many))], 0, ([list(range(many - 1))], many - 1))

    def test_where_nothing_can_be_taken(self):
        for n in range(7):
            for rows in counting_stairs(n):
                beyond = [len(rows), len(rows) + 1, 40, 1000, HUGE, BEYOND, -1, -2, -len(rows), -HUGE, -BEYOND]
                closed = [at for at in range(len(rows)) if at not in ends(rows)]
                for at in closed + [at for at in beyond if at not in range(len(rows))]:
                    check_refused(self, NoPlace, take_out, rows, at)

    def test_the_empty_list(self):
        for at in (0, 1, -1, -2, HUGE):
            check_refused(self, NoPlace, take_out, [], at)

    def test_the_refusal(self):
        with self.assertRaises(StairError) as caught:
            take_out([[1], [2]], 0)
        self.assertIsInstance(caught.exception, NoPlace)
        self.assertIsInstance(caught.exception, ValueError)
        self.assertNotIsInstance(caught.exception, (NoStairs, NoPair, NoShape, NoNote))

    def test_laying_brings_the_stairs_back(self):
        for n in range(7):
            for counting in counting_stairs(n):
                for rows in (counting, spread(counting)):
                    for at in ends(rows):
                        left, number = take_out(rows, at)
                        self.assertTrue(is_stairs_by_words(left))
                        self.assertEqual(lay_in(left, number), (rows, at))

    def test_taking_undoes_laying(self):
        for n in range(6):
            for rows in counting_stairs(n):
                twice = [[2 * number for number in row] for row in rows]
                for number in range(1, 2 * n + 2, 2):
                    grown, at = lay_in(twice, number)
                    self.assertEqual(take_out(grown, at), (twice, number))

    def test_keeps_nothing(self):
        for rows, at in (([[5]], 0), ([[1, 2, 4], [3]], 0), ([[1, 4], [3, 5]], 1),
                         ([[1, 3, 6], [2, 4, 9], [5], [7]], 1), ([[1], [2], [3]], 2)):
            check_keeps_nothing(self, take_out, rows, at)


class TakenTest(unittest.TestCase):
    def test_rows(self):
        self.assertEqual(taken([], []), [])
        self.assertEqual(taken([[8]], [[1]]), [8])
        self.assertEqual(taken([[2, 5, 9]], [[1, 2, 3]]), [2, 5, 9])
        self.assertEqual(taken([[2], [5], [9]], [[1], [2], [3]]), [9, 5, 2])
        self.assertEqual(taken([[1, 2, 6], [3, 4, 7], [5]], [[1, 3, 4], [2, 6, 7], [5]]), [5, 3, 4, 7, 1, 2, 6])
        self.assertEqual(taken([[1, 2], [3]], [[1, 3], [2]]), [3, 1, 2])
        self.assertEqual(taken([[1, 2], [3]], [[1, 2], [3]]), [1, 3, 2])
        self.assertEqual(taken([[-HUGE, -4], [0], [HUGE]], [[1, 3], [2], [4]]), [HUGE, -HUGE, 0, -4])

    def test_there_and_back(self):
        for row in counted_rows(5):
            self.assertEqual(taken(*laid(row)), row)
            other = spread([row])[0]
            self.assertEqual(taken(*laid(other)), other)

    def test_back_and_there(self):
        for n in range(6):
            for first in counting_stairs(n):
                for second in counting_stairs(n):
                    if [len(row) for row in first] == [len(row) for row in second]:
                        self.assertEqual(laid(taken(first, second)), (first, second))
                        self.assertEqual(laid(taken(spread(first), second)), (spread(first), second))

    def test_forty_numbers_and_beyond(self):
        mixed = [(17 * k * k + 5 * k) % 41 * 10 ** 28 + k for k in range(45)]
        for row in (mixed[:40], mixed, list(range(45)), list(range(45, 0, -1)), [k * BEYOND for k in (3, 1, 2)]):
            self.assertEqual(taken(*laid(row)), row)
        self.assertEqual(laid(taken(block(5, 8), block(5, 8))), (block(5, 8), block(5, 8)))

    def refused(self, first, second):
        check_refused(self, NoPair, taken, first, second)

    def test_one_is_no_stairs(self):
        good = [[1, 2], [3]]
        bad = ([[2, 1], [3]], [[1, 2], [1]], [[2, 3], [1]], [[1, 1], [2]], [[1, 3], [3]])
        for rows in bad:
            self.refused(rows, good)
            self.refused(good, rows)
            self.refused(rows, rows)

    def test_the_first_alone_is_no_stairs(self):
        self.refused([[1, 2, 5], [3, 6], [5]], [[1, 2, 3], [4, 5], [6]])
        self.refused([[1, 4], [2, 3]], [[1, 2], [3, 4]])

    def test_lengths_that_are_no_shape(self):
        self.refused([[1], [2, 3]], [[1], [2, 3]])
        self.refused([[1, 2], [3]], [[1], [2, 3]])
        self.refused([[1], [2, 3]], [[1, 2], [3]])

    def test_a_row_of_nought_places(self):
        for rows in ([[]], [[], []]):
            self.refused(rows, rows)
            self.refused(rows, [])
            self.refused([], rows)
        for rows in ([[1], []], [[], [1]]):
            self.refused(rows, rows)
            self.refused(rows, [[1]])
            self.refused([[1]], rows)
        self.refused([[1, 2], [], [3]], [[1, 2], [], [3]])

    def test_unlike_shapes(self):
        self.refused([], [[1]])
        self.refused([[1]], [])
        self.refused([[1, 2]], [[1], [2]])
        self.refused([[1, 2], [3]], [[1, 2]])
        self.refused([[1, 2]], [[1, 2], [3]])
        self.refused([[1, 2, 3]], [[1, 2], [3]])
        self.refused([[1, 2, 3, 4], [5], [6]], [[1, 2, 3], [4, 5], [6]])

    def test_the_second_does_not_count(self):
        for second in ([[0, 1], [2]], [[1, 2], [4]], [[2, 3], [4]], [[-1, 1], [2]], [[1, 3], [HUGE]], [[-3, -2], [-1]],
                       [[-1, 0], [1]]):
            self.refused([[1, 2], [3]], second)
        self.refused([[1]], [[0]])
        self.refused([[1]], [[2]])
        self.refused([[1]], [[-1]])

    def test_the_first_need_not_count(self):
        self.assertEqual(taken([[0, 7], [9]], [[1, 3], [2]]), [9, 0, 7])

    def test_the_refusal(self):
        for first, second in (([[2, 1]], [[1, 2]]), ([[1]], []), ([[1]], [[2]]), ([[]], [[]])):
            with self.assertRaises(ValueError) as caught:
                taken(first, second)
            self.assertIsInstance(caught.exception, NoPair)
            self.assertIsInstance(caught.exception, StairError)
            self.assertNotIsInstance(caught.exception, (NoStairs, NoPlace, NoShape, NoNote))

    def test_keeps_nothing(self):
        for row in ([], [1], [5, 3, 4, 7, 1, 2, 6], [3, 2, 1]):
            check_keeps_nothing(self, taken, *laid(row))


if __name__ == "__main__":
    unittest.main()
