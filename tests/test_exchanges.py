import unittest
from itertools import permutations

from stairrows.exchanges import chain, next_rows
from stairrows.laying import laid
from stairrows.stairs import reading
from tests.samples import BEYOND, HUGE, check_keeps_nothing, counted_rows, exchanged, mixed_row, spread

TWELVE = (
    list(range(1, 13)),
    list(range(12, 0, -1)),
    [6, 12, 1, 7, 3, 11, 2, 9, 5, 10, 4, 8],
    [7, 8, 9, 10, 11, 12, 1, 2, 3, 4, 5, 6],
    [2, 1, 4, 3, 6, 5, 8, 7, 10, 9, 12, 11],
    [1, 12, 2, 11, 3, 10, 4, 9, 5, 8, 6, 7],
    [12, 1, 11, 2, 10, 3, 9, 4, 8, 5, 7, 6],
    [6, 7, 5, 8, 4, 9, 3, 10, 2, 11, 1, 12],
    [10, 7, 11, 4, 8, 12, 2, 5, 9, 1, 3, 6],
    [HUGE, -HUGE, 0, 5, -5, HUGE - 1, 1 - HUGE, 10 ** 20, -(10 ** 20), 7, -7, 1],
)


class NextRowsTest(unittest.TestCase):
    def check(self, row, answer):
        found = next_rows(row)
        self.assertIsInstance(found, list)
        self.assertEqual(found, answer)

    def test_fewer_than_three_numbers(self):
        for row in ([], [7], [1, 2], [2, 1], [HUGE, -HUGE]):
            self.check(row, [])

    def test_three_numbers(self):
        self.check([1, 2, 3], [])
        self.check([3, 2, 1], [])
        self.check([1, 3, 2], [[3, 1, 2]])
        self.check([3, 1, 2], [[1, 3, 2]])
        self.check([2, 1, 3], [[2, 3, 1]])
        self.check([2, 3, 1], [[2, 1, 3]])

    def test_by_place_from_the_first_on(self):
        self.check([2, 4, 1, 3], [[2, 1, 4, 3]])
        self.check([2, 1, 4, 3], [[2, 4, 1, 3]])
        self.check([1, 3, 2, 5, 4], [[3, 1, 2, 5, 4], [1, 3, 5, 2, 4]])
        self.check([3, 1, 5, 2, 4], [[3, 5, 1, 2, 4], [3, 1, 2, 5, 4]])
        self.check([4, 1, 3, 2], [[1, 4, 3, 2], [4, 3, 1, 2]])

    def test_the_one_ahead_and_the_one_behind(self):
        self.check([5, 1, 9, 6], [[5, 9, 1, 6]])
        self.check([5, 1, 9, 10], [[5, 9, 1, 10]])
        self.check([0, 1, 9, 5], [[0, 9, 1, 5]])
        self.check([0, 1, 9, 10], [])

    def test_only_the_next_ones_are_asked(self):
        self.check([5, 0, 1, 9], [[0, 5, 1, 9]])
        self.check([1, 9, 10, 5], [[1, 9, 5, 10]])
        self.check([1, 2, 3, 4, 5, 6], [])
        self.check([4, 0, 10, 20, 5], [[4, 10, 0, 20, 5], [4, 0, 10, 5, 20]])

    def test_very_large_numbers(self):
        self.check([HUGE, -HUGE, HUGE - 1], [[-HUGE, HUGE, HUGE - 1]])
        self.check([BEYOND, BEYOND + 2, BEYOND + 1], [[BEYOND + 2, BEYOND, BEYOND + 1]])

    def test_as_the_words_tell(self):
        for row in counted_rows(6):
            for numbers in (row, spread([row])[0]):
                self.check(numbers, exchanged(numbers))

    def test_forty_numbers_and_beyond(self):
        for many in (40, 45):
            row = mixed_row(many)
            self.check(row, exchanged(row))
            self.assertGreater(len(next_rows(row)), 10)
            self.check(list(range(many)), [])
            self.check(list(range(many, 0, -1)), [])

    def test_each_exchange_can_be_taken_back(self):
        for row in counted_rows(5):
            for other in next_rows(row):
                self.assertIn(row, next_rows(other))

    def test_exchanges_keep_the_first_stairs(self):
        for row in counted_rows(5):
            for other in next_rows(row):
                self.assertEqual(laid(other)[0], laid(row)[0])

    def test_rows_with_the_same_first_stairs_are_joined(self):
        for n in range(6):
            groups = {}
            for row in permutations(range(1, n + 1)):
                groups.setdefault(repr(laid(list(row))[0]), set()).add(row)
            for group in groups.values():
                found = {min(group)}
                waiting = [min(group)]
                while waiting:
                    others = {tuple(other) for other in next_rows(list(waiting.pop()))} - found
                    found |= others
                    waiting.extend(others)
                self.assertEqual(found, group)

    def test_keeps_nothing(self):
        for row in ([], [1], [1, 2], [1, 3, 2], [1, 3, 2, 5, 4], [3, 2, 1]):
            check_keeps_nothing(self, next_rows, row)

    def test_no_row_is_answered_twice_as_one_list(self):
        rows = next_rows([1, 3, 2, 5, 4])
        rows[0].append(9)
        self.assertEqual(rows[1], [1, 3, 5, 2, 4])


class ChainTest(unittest.TestCase):
    def check(self, row):
        links = chain(row)
        self.assertIsInstance(links, list)
        self.assertEqual(links[0], row)
        self.assertEqual(links[-1], reading(laid(row)[0]))
        for ahead, behind in zip(links, links[1:]):
            self.assertIn(behind, exchanged(ahead))
            self.assertIn(behind, next_rows(ahead))
        self.assertEqual(len({id(link) for link in links}), len(links))
        return links

    def test_a_row_that_is_the_reading(self):
        for row in ([], [7], [1, 2], [2, 1], [1, 2, 3], [3, 2, 1], [3, 1, 2], [2, 1, 3], [-HUGE, 0, HUGE]):
            self.assertEqual(chain(row), [row])

    def test_three_numbers(self):
        self.assertEqual(chain([1, 3, 2]), [[1, 3, 2], [3, 1, 2]])
        self.assertEqual(chain([2, 3, 1]), [[2, 3, 1], [2, 1, 3]])

    def test_every_row_of_up_to_six_numbers(self):
        for row in counted_rows(6):
            self.check(row)
            self.check(spread([row])[0])

    def test_twelve_numbers(self):
        for row in TWELVE:
            self.assertEqual(len(row), 12)
            self.assertLessEqual(len(self.check(row)), 500)
            self.assertLessEqual(len(self.check(row[::-1])), 500)

    def test_many_rows_of_twelve_numbers(self):
        row = list(range(12))
        for step in range(300):
            row = row[step % 5 + 3:] + row[:step % 5 + 3]
            row[step % 12], row[step * 7 % 11] = row[step * 7 % 11], row[step % 12]
            self.assertLessEqual(len(self.check(row)), 500)

    def test_beyond_twelve_numbers(self):
        for many in (13, 14, 20, 40):
            self.check(mixed_row(many))
            self.check(list(range(many)))
            self.check(list(range(many, 0, -1)))

    def test_very_large_numbers(self):
        self.check([BEYOND, -BEYOND, BEYOND + 1, 0, HUGE, -HUGE])

    def test_keeps_nothing(self):
        for row in ([], [1], [2, 1], [1, 3, 2], [5, 3, 4, 7, 1, 2, 6], TWELVE[2]):
            check_keeps_nothing(self, chain, list(row))


if __name__ == "__main__":
    unittest.main()
