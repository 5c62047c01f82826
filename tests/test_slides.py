import unittest
from itertools import product

from stairrows.errors import NoNote, NoPair, NoPlace, NoShape, NoStairs, StairError
from stairrows.laying import laid
from stairrows.slides import emptied, evacuated, is_holed, slide
from stairrows.stairs import reading
from tests.samples import (
    BEYOND, HUGE, block, check_keeps_nothing, check_refused, counted_rows, counting_stairs, holed_stairs,
    is_holed_by_words, is_stairs_by_words, mixed_row, spread,
)

NO_HOLED = (
    [[]], [[], []], [[1], []], [[], [1]], [[None], []], [[], [None]],
    [[1], [2, 3]], [[None], [None, None]], [[None], [None, 1]],
    [[1, None]], [[None, 1, None]], [[None, 1, None, 2]], [[1, 2], [3, None]],
    [[1], [None]], [[None, 1], [None, None]], [[1, 2], [None, 3]], [[None, 1, 2], [None, None]],
    [[None, 2, 1]], [[2, 1]], [[None, 1, 3, 2]], [[None, 2], [4, 3]],
    [[None, 3], [1, 2]], [[None, None, 3], [None, 1, 2]], [[None], [2], [1]], [[2], [1]],
    [[None, 1], [1]], [[1, 1]], [[None, 4], [3], [4]], [[None, None, 4], [None, 4], [4]], [[None, HUGE], [HUGE]],
)


def slid_by_words(rows, at):
    """A sliding as the document's words tell it, on a dict of places."""
    places = {(r, c): number for r, row in enumerate(rows) for c, number in enumerate(row)}
    hole = (at, rows[at].count(None) - 1)
    while True:
        beside = [(hole[0], hole[1] + 1), (hole[0] + 1, hole[1])]
        beside = [place for place in beside if places.get(place) is not None]
        if not beside:
            break
        moving = min(beside, key=places.get)
        places[hole] = places[moving]
        places[moving] = None
        hole = moving
    del places[hole]
    left = [[places[r, c] for c in range(len(rows[r])) if (r, c) in places] for r in range(len(rows))]
    return [row for row in left if row], hole[0]


def rows_to_slide(rows):
    """The rows whose last hole has none below it."""
    holes = [row.count(None) for row in rows] + [0]
    return [at for at in range(len(rows)) if holes[at] > holes[at + 1]]


def all_ends(rows):
    """What comes at last for every order of sliding."""
    if not rows_to_slide(rows):
        return [rows]
    found = []
    for at in rows_to_slide(rows):
        for end in all_ends(slide(rows, at)[0]):
            if end not in found:
                found.append(end)
    return found


class IsHoledTest(unittest.TestCase):
    def check(self, rows, answer):
        self.assertIs(is_holed(rows), answer, rows)

    def test_the_empty_list(self):
        self.check([], True)

    def test_stairs_without_holes(self):
        for rows in ([[1]], [[5]], [[1, 2, 3]], [[1], [2], [3]], [[1, 3], [2]], [[-HUGE, 0], [HUGE]]):
            self.check(rows, True)

    def test_stairs_with_holes(self):
        for rows in ([[None, 1]], [[None, None, 2], [None, 1], [4]], [[None], [1]], [[None, 5], [2, 7]],
                     [[None, 2], [None, 3], [1, 4]], [[None, None, 1], [None, 0], [-1]], [[None, 1], [2]]):
            self.check(rows, True)

    def test_a_hole_alone(self):
        self.check([[None]], True)

    def test_rows_of_holes_alone(self):
        for rows in ([[None, None]], [[None], [None]], [[None, None, None], [None]], [[None, None], [None, None]],
                     [[None, None], [None], [1]], [[None, 1], [None]], [[None, None], [None, 3], [None]],
                     [[None, None], [1]]):
            self.check(rows, True)

    def test_a_greater_number_may_stand_aslant(self):
        self.check([[None, 1], [5]], True)
        self.check([[None, 5], [1]], True)
        self.check([[None, None, 9], [None, 8], [7]], True)

    def test_what_is_none(self):
        for rows in NO_HOLED:
            self.check(rows, False)

    def test_a_hole_behind_a_number(self):
        for rows in ([[1, None]], [[None, 1, None]], [[None, None, 3], [1, None]], [[1, 2, None], [3]]):
            self.check(rows, False)

    def test_more_holes_than_the_row_above(self):
        for rows in ([[1], [None]], [[None, 1], [None, None]], [[None, 1, 2], [3], [None]], [[1, 2], [None, 5]]):
            self.check(rows, False)

    def test_very_large_numbers(self):
        self.check([[None, -BEYOND, HUGE], [-HUGE, BEYOND]], True)
        self.check([[None, HUGE, HUGE - 1]], False)
        self.check([[None, HUGE], [None, HUGE]], False)

    def test_forty_places_and_beyond(self):
        for height, width in ((1, 40), (40, 1), (5, 8), (8, 5), (1, 45), (45, 1)):
            rows = block(height, width)
            self.check(rows, True)
            rows[0][0] = None
            self.check(rows, True)
            self.check([[None] * width] * height, True)
            rows[-1][-1] = 0
            self.check(rows, False)
            rows[-1][-1] = None
            self.check(rows, False)

    def test_all_of_up_to_six_places(self):
        for n in range(7):
            for rows in holed_stairs(n):
                self.check(rows, True)
                self.check(spread(rows), True)

    def test_every_small_list_of_rows(self):
        signs = (None, 1, 2, 3)
        rows_of = [list(row) for many in range(4) for row in product(signs, repeat=many)]
        for height in range(3):
            for rows in product(rows_of, repeat=height):
                self.check(list(rows), is_holed_by_words(rows))
        for lengths in ((2, 2, 1), (2, 1, 1), (1, 2, 1), (1, 1, 1)):
            for numbers in product(signs, repeat=sum(lengths)):
                rest = list(numbers)
                rows = [[rest.pop() for place in range(length)] for length in lengths]
                self.check(rows, is_holed_by_words(rows))

    def test_keeps_nothing(self):
        for rows in ([], [[None, 3], [2]], [[None]], [[1, 3], [2]]) + NO_HOLED:
            check_keeps_nothing(self, is_holed, [list(row) for row in rows])


class SlideTest(unittest.TestCase):
    def check(self, rows, at, answer):
        found = slide(rows, at)
        self.assertIsInstance(found, tuple)
        self.assertEqual(found, answer)

    def test_the_lesser_neighbour_moves(self):
        self.check([[None, 1], [2, 3]], 0, ([[1, 3], [2]], 1))
        self.check([[None, 2], [1, 3]], 0, ([[1, 2], [3]], 1))
        self.check([[None, 2, 5], [1, 4], [3]], 0, ([[1, 2, 5], [3, 4]], 2))
        self.check([[None, 1, 4], [2, 3, 6], [5, 7]], 0, ([[1, 3, 4], [2, 6], [5, 7]], 1))
        self.check([[None, 1, 3], [2, 4]], 0, ([[1, 3], [2, 4]], 0))

    def test_one_neighbour_alone(self):
        self.check([[None, 4, 7]], 0, ([[4, 7]], 0))
        self.check([[None], [4], [7]], 0, ([[4], [7]], 2))
        self.check([[None, 4], [None], [7]], 1, ([[None, 4], [7]], 2))
        self.check([[None, None, 4], [None]], 0, ([[None, 4], [None]], 0))

    def test_no_neighbour_at_all(self):
        self.check([[None, None]], 0, ([[None]], 0))
        self.check([[None, 3], [None]], 1, ([[None, 3]], 1))
        self.check([[None, None], [None]], 0, ([[None], [None]], 0))
        self.check([[None, None], [1]], 0, ([[None], [1]], 0))

    def test_a_row_that_becomes_empty_is_gone(self):
        self.check([[None]], 0, ([], 0))
        self.check([[None], [None]], 1, ([[None]], 1))
        self.check([[None], [5]], 0, ([[5]], 1))
        self.check([[None, 8], [None, 9], [5]], 1, ([[None, 8], [5, 9]], 2))

    def test_a_row_that_becomes_holes_alone(self):
        self.check([[None, None, 1], [None, 3]], 0, ([[None, 1], [None, 3]], 0))
        self.check([[None, None], [None, None], [1]], 1, ([[None, None], [None], [1]], 1))

    def test_only_the_last_hole_of_the_row_moves(self):
        self.check([[None, None, 2], [None, 1], [4]], 0, ([[None, 1, 2], [None], [4]], 1))
        self.check([[None, None, 2], [None, 1], [4]], 1, ([[None, None, 2], [1], [4]], 1))

    def test_numbers_above_and_far_off_stay(self):
        self.check([[None, None, 9], [None, 3, 10], [1, 4], [2]], 1, ([[None, None, 9], [1, 3, 10], [2, 4]], 3))

    def test_very_large_numbers(self):
        self.check([[None, HUGE], [HUGE - 1]], 0, ([[HUGE - 1, HUGE]], 1))
        self.check([[None, -HUGE], [1 - HUGE, BEYOND]], 0, ([[-HUGE, BEYOND], [1 - HUGE]], 1))
        self.check([[None, -BEYOND], [-HUGE]], 0, ([[-BEYOND], [-HUGE]], 0))

    def test_as_the_words_tell(self):
        for n in range(7):
            for counting in holed_stairs(n):
                for rows in (counting, spread(counting)):
                    for at in rows_to_slide(rows):
                        self.check(rows, at, slid_by_words(rows, at))
                        self.assertTrue(is_holed_by_words(slide(rows, at)[0]))

    def test_forty_places_and_beyond(self):
        for many in (40, 45):
            self.check([[None] + list(range(1, many))], 0, ([list(range(1, many))], 0))
            self.check([[None]] + [[k] for k in range(1, many)], 0, ([[k] for k in range(1, many)], many - 1))
            self.check([[None] * many], 0, ([[None] * (many - 1)], 0))
        for holes in (1, 7, 8):
            rows = [[None] * holes + list(range(holes - 8, 0))] + block(4, 8)
            self.check(rows, 0, slid_by_words(rows, 0))

    def test_rows_that_are_none_with_holes(self):
        for rows in NO_HOLED:
            for at in (0, 1, 5, -1, HUGE, -BEYOND):
                check_refused(self, NoStairs, slide, [list(row) for row in rows], at)

    def test_no_such_row(self):
        for rows in ([], [[None]], [[None, 1], [None]], [[1]], [[None, None, 2], [None, 1], [4]]):
            for at in (len(rows), len(rows) + 1, 40, HUGE, BEYOND, -1, -2, -len(rows) - 1, -HUGE, -BEYOND):
                check_refused(self, NoPlace, slide, rows, at)

    def test_no_hole_in_the_row(self):
        check_refused(self, NoPlace, slide, [[1, 2], [3]], 0)
        check_refused(self, NoPlace, slide, [[1, 2], [3]], 1)
        check_refused(self, NoPlace, slide, [[None, 2], [3]], 1)
        check_refused(self, NoPlace, slide, [[None, None, 2], [None, 1], [4]], 2)

    def test_a_hole_below_the_last_one(self):
        check_refused(self, NoPlace, slide, [[None], [None]], 0)
        check_refused(self, NoPlace, slide, [[None, 1], [None, 2]], 0)
        check_refused(self, NoPlace, slide, [[None, None, 3], [None, None], [None]], 0)
        check_refused(self, NoPlace, slide, [[None, 1], [None], [2]], 0)

    def test_every_row_that_can_not_be_slid(self):
        for n in range(7):
            for rows in holed_stairs(n):
                for at in range(-2, len(rows) + 3):
                    if at not in rows_to_slide(rows):
                        check_refused(self, NoPlace, slide, rows, at)

    def test_the_refusals(self):
        for rows, refusal in (([[2, 1]], NoStairs), ([[1]], NoPlace), ([], NoPlace), ([[1, None]], NoStairs)):
            with self.assertRaises(StairError) as caught:
                slide(rows, 0)
            others = {NoStairs, NoPair, NoPlace, NoShape, NoNote} - {refusal}
            self.assertIsInstance(caught.exception, refusal)
            self.assertIsInstance(caught.exception, ValueError)
            self.assertNotIsInstance(caught.exception, tuple(others))

    def test_keeps_nothing(self):
        for rows, at in (([[None]], 0), ([[None, 1], [2, 3]], 0), ([[None, 3], [None]], 1),
                         ([[None, None, 2], [None, 1], [4]], 1), ([[None], [None], [3]], 1)):
            check_keeps_nothing(self, slide, rows, at)


class EmptiedTest(unittest.TestCase):
    def check(self, rows, answer):
        found = emptied(rows)
        self.assertIsInstance(found, list)
        self.assertEqual(found, answer)

    def test_rows_without_holes_stay(self):
        self.check([], [])
        self.check([[1, 3], [2]], [[1, 3], [2]])
        for n in range(7):
            for rows in counting_stairs(n):
                self.check(rows, rows)
                self.check(spread(rows), spread(rows))

    def test_holes_alone(self):
        for rows in ([[None]], [[None, None], [None]], [[None], [None]]):
            self.check(rows, [])

    def test_holes(self):
        self.check([[None, 1]], [[1]])
        self.check([[None], [1]], [[1]])
        self.check([[None, None, 2], [None, 1], [4]], [[1, 2], [4]])
        self.check([[None, 1], [2, 3]], [[1, 3], [2]])
        self.check([[None, 2], [1, 3]], [[1, 2], [3]])
        self.check([[None, None, 9], [None, 8], [7]], [[7, 8, 9]])
        self.check([[None, None, 7], [None, 8], [9]], [[7], [8], [9]])
        self.check([[None, BEYOND], [HUGE]], [[HUGE, BEYOND]])

    def test_every_order_of_sliding_gives_the_same(self):
        for n in range(7):
            for counting in holed_stairs(n):
                for rows in (counting, spread(counting)):
                    answer = emptied(rows)
                    self.assertEqual(all_ends(rows), [answer])
                    self.assertEqual(answer, laid(reading(rows))[0])
                    self.assertTrue(is_stairs_by_words(answer))

    def test_forty_places_and_beyond(self):
        for height, width in ((5, 8), (8, 5), (6, 7), (1, 45), (45, 1)):
            for holes in (1, width // 2, width):
                rows = block(height, width)
                rows[0][:holes] = [None] * holes
                left = rows
                for step in range(holes):
                    left = slide(left, 0)[0]
                self.check(rows, left)

    def test_two_orders_of_a_large_one(self):
        rows = [[None] * (4 - at) + [10 * place + at for place in range(4 + at)] for at in range(5)]
        from_above = rows
        from_below = rows
        while rows_to_slide(from_above):
            from_above = slide(from_above, rows_to_slide(from_above)[0])[0]
            from_below = slide(from_below, rows_to_slide(from_below)[-1])[0]
        self.check(rows, from_above)
        self.check(rows, from_below)

    def test_rows_that_are_none_with_holes(self):
        for rows in NO_HOLED:
            check_refused(self, NoStairs, emptied, [list(row) for row in rows])

    def test_keeps_nothing(self):
        for rows in ([], [[1, 3], [2]], [[None]], [[None, None, 2], [None, 1], [4]], [[5]]):
            check_keeps_nothing(self, emptied, rows)


class EvacuatedTest(unittest.TestCase):
    def check(self, rows, answer):
        found = evacuated(rows)
        self.assertIsInstance(found, list)
        self.assertEqual(found, answer)

    def test_small_stairs(self):
        self.check([], [])
        self.check([[1]], [[1]])
        self.check([[1, 2, 3]], [[1, 2, 3]])
        self.check([[1], [2], [3]], [[1], [2], [3]])
        self.check([[1, 2], [3]], [[1, 3], [2]])
        self.check([[1, 3], [2]], [[1, 2], [3]])
        self.check([[1, 2], [3, 4]], [[1, 2], [3, 4]])
        self.check([[1, 3], [2, 4]], [[1, 3], [2, 4]])

    def test_larger_stairs(self):
        self.check([[1, 2, 3], [4]], [[1, 3, 4], [2]])
        self.check([[1, 2, 4], [3]], [[1, 2, 4], [3]])
        self.check([[1, 2, 6], [3, 4], [5]], [[1, 2, 4], [3, 6], [5]])

    def test_by_steps(self):
        for n in range(7):
            for rows in counting_stairs(n):
                left = rows
                answer = [[None] * len(row) for row in rows]
                for number in range(n, 0, -1):
                    left, at = slid_by_words([[None] + left[0][1:]] + left[1:], 0)
                    answer[at][len(left[at]) if at < len(left) else 0] = number
                self.check(rows, answer)

    def test_it_is_stairs_that_count_of_the_same_shape(self):
        for n in range(7):
            for rows in counting_stairs(n):
                answer = evacuated(rows)
                self.assertTrue(is_stairs_by_words(answer))
                self.assertEqual(sorted(sum(answer, [])), list(range(1, n + 1)))
                self.assertEqual([len(row) for row in answer], [len(row) for row in rows])

    def test_twice_gives_the_stairs_again(self):
        for n in range(8):
            for rows in counting_stairs(n):
                self.check(evacuated(rows), rows)

    def test_the_row_turned_about_with_other_numbers(self):
        for row in counted_rows(6):
            other = [len(row) + 1 - number for number in reversed(row)]
            self.check(laid(row)[0], laid(other)[0])

    def test_forty_places_and_beyond(self):
        for many in (40, 46):
            ranks = sorted(mixed_row(many))
            row = [ranks.index(number) + 1 for number in mixed_row(many)]
            first = laid(row)[0]
            self.check(first, laid([many + 1 - number for number in reversed(row)])[0])
            self.check(evacuated(first), first)
        for height, width in ((5, 8), (1, 40), (40, 1), (45, 1), (1, 45)):
            self.check(block(height, width), block(height, width))

    def test_no_stairs(self):
        for rows in ([[]], [[1], []], [[1], [2, 3]], [[2, 1]], [[2], [1]], [[1, 1]], [[1, 2], [2]], [[1, 4], [2, 3]]):
            check_refused(self, NoStairs, evacuated, rows)

    def test_stairs_that_do_not_count(self):
        for rows in ([[0]], [[2]], [[-1]], [[1, 3]], [[0, 1]], [[1, 2], [4]], [[-1, 0], [1]], [[1, HUGE]],
                     [[BEYOND]], [[2, 3], [4]]):
            check_refused(self, NoStairs, evacuated, rows)

    def test_a_hole(self):
        for rows in ([[None]], [[None, 1]], [[None, 1], [2]], [[None], [1]], [[None, 2], [1, 3]], [[None], [None]],
                     [[1, None]], [[1], [None]], [[None, 2], [3]], [[1, 2], [3, None]]):
            check_refused(self, NoStairs, evacuated, rows)
        for rows in NO_HOLED:
            check_refused(self, NoStairs, evacuated, [list(row) for row in rows])

    def test_the_refusal(self):
        for refused in (emptied, evacuated):
            with self.assertRaises(StairError) as caught:
                refused([[2, 1]])
            self.assertIsInstance(caught.exception, NoStairs)
            self.assertIsInstance(caught.exception, ValueError)
            self.assertNotIsInstance(caught.exception, (NoPair, NoPlace, NoShape, NoNote))

    def test_keeps_nothing(self):
        for rows in ([], [[1]], [[1, 2], [3]], [[1, 2, 6], [3, 4], [5]], [[1], [2]]):
            check_keeps_nothing(self, evacuated, rows)


if __name__ == "__main__":
    unittest.main()
