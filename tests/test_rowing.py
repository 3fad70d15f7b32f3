"""Points [1], [2], [10] and [12]: when works begin and end, taken up in rows, and which row is the best one."""

import itertools
import unittest

from benchends.errors import NoLengths, NoRow, NoWorld, TooMany
from benchends.orders import played
from benchends.rowing import begin_moments, best_row, finish, finish_in, short_ones_first, waits_in
from helper import (
    LARGE_WORLDS, NO_LENGTHS, NO_NUMBERS, NO_WORLDS, SMALL_WORLDS, THINGS_OF_OTHER_KINDS, WORLD, all_lengths, numbers,
    some_lengths, timeline,
)

ALL_WORLDS = SMALL_WORLDS + LARGE_WORLDS

# Of four works.
NO_ROWS = THINGS_OF_OTHER_KINDS + [
    # a work left out, and one too many
    (), (0,), (0, 1, 2), (1, 2, 3), (0, 1, 2, 3, 4), (0, 1, 2, 3, 3), (0, 1, 2, 3, 0), (0, 1, 2, 3, None), (0,) * 1000,
    # a work twice
    (0, 0, 1, 2), (0, 1, 2, 2), (3, 3, 3, 3), (0, 0, 3, 3), (1, 1, 1, 3), (0, 2, 2, 2), (0, 1, 1, 3),
    # a number below 0, or beyond the works
    (-1, 0, 1, 2), (0, 1, 2, -1), (-4, -3, -2, -1), (1, 2, 3, 4), (0, 1, 2, 4), (0, 1, 2, 10), (0, 1, 2, 10 ** 400),
    (3, 2, 1, -10 ** 400), (0, 1, 2, -3),
    # True and False
    (False, 1, 2, 3), (0, True, 2, 3), (False, True, 2, 3), (3, 2, True, 0), (3, 2, 1, False), (True, True, True, True),
    # no tuple
    [0, 1, 2, 3], [3, 2, 1, 0], {0: 0, 1: 1, 2: 2, 3: 3}, {0, 1, 2, 3}, range(4), "0123", ((0, 1, 2, 3),),
]
NO_ROWS += [(0, 1, 2, thing) for thing in NO_NUMBERS] + [(thing, 0, 2, 3) for thing in NO_NUMBERS]


def some_rows(works, start):
    """Rows of all kinds: rising, falling, and a few mixed ones."""
    step = numbers(start)
    rising = tuple(range(works))
    rows = [rising, rising[::-1], rising[1:] + rising[:1]]
    for again in range(3):
        rows.append(tuple(sorted(rising, key=lambda work: next(step))))
    return rows


def begin_of(told, work):
    return [work in part for part in told].index(True)


class FinishTest(unittest.TestCase):
    def test_against_a_count_moment_by_moment(self):
        for world in ALL_WORLDS:
            for lengths in some_lengths(world, 51):
                told = timeline(world[0], lengths, range(len(lengths)))
                self.assertEqual(finish(world, lengths), len(told), (world, lengths))
                expected = [begin_of(told, work) for work in range(len(lengths))]
                self.assertEqual(begin_moments(world, lengths), expected, (world, lengths))

    def test_the_same_as_in_the_row_of_the_numbers(self):
        for world in ALL_WORLDS:
            for lengths in some_lengths(world, 52):
                row = tuple(range(len(lengths)))
                self.assertEqual(finish_in(world, lengths, row), finish(world, lengths))
                self.assertEqual(waits_in(world, lengths, row), sum(begin_moments(world, lengths)))
                self.assertEqual(finish(world, lengths), played(world, lengths)[1][-1])

    def test_one_bench(self):
        world = (1, ((1, 9),) * 4)
        self.assertEqual(finish(world, (9, 1, 1, 5)), 16)
        self.assertEqual(begin_moments(world, (9, 1, 1, 5)), [0, 9, 10, 11])
        self.assertEqual(finish((1, ((99, 99),) * 10), (99,) * 10), 990)

    def test_more_benches_than_works(self):
        world = (4, ((1, 9), (1, 9)))
        self.assertEqual(finish(world, (5, 2)), 5)
        self.assertEqual(finish(world, (2, 5)), 5)
        self.assertEqual(begin_moments(world, (5, 2)), [0, 0])
        self.assertEqual((finish((4, ((1, 1),)), (1,)), begin_moments((4, ((1, 1),)), (1,))), (1, [0]))

    def test_to_the_letter(self):
        self.assertEqual(finish(WORLD, (3, 4, 5, 6)), 10)
        self.assertEqual(begin_moments(WORLD, (3, 4, 5, 6)), [0, 0, 3, 4])
        self.assertEqual(finish(WORLD, (5, 4, 9, 2)), 13)
        self.assertEqual(begin_moments(WORLD, (5, 4, 9, 2)), [0, 0, 4, 5])

    def test_the_kinds_of_the_answers(self):
        self.assertIs(type(finish(WORLD, (3, 4, 5, 6))), int)
        self.assertIs(type(begin_moments(WORLD, (3, 4, 5, 6))), list)
        self.assertIs(type(short_ones_first(WORLD, (3, 4, 5, 6))), tuple)
        self.assertIs(type(best_row(WORLD, (3, 4, 5, 6))), tuple)
        self.assertIs(type(finish_in(WORLD, (3, 4, 5, 6), (3, 2, 1, 0))), int)
        self.assertIs(type(waits_in(WORLD, (3, 4, 5, 6), (3, 2, 1, 0))), int)


class ShortOnesFirstTest(unittest.TestCase):
    def test_rising_lengths_and_of_equal_ones_by_their_numbers(self):
        for world in ALL_WORLDS:
            for lengths in some_lengths(world, 53):
                row = short_ones_first(world, lengths)
                self.assertEqual(sorted(row), list(range(len(lengths))))
                for ahead, behind in zip(row, row[1:]):
                    self.assertTrue(
                        lengths[ahead] < lengths[behind] or lengths[ahead] == lengths[behind] and ahead < behind,
                        (lengths, row),
                    )

    def test_to_the_letter(self):
        world = (3, ((1, 20),) * 6)
        self.assertEqual(short_ones_first(world, (4, 4, 4, 4, 4, 4)), (0, 1, 2, 3, 4, 5))
        self.assertEqual(short_ones_first(world, (6, 5, 4, 3, 2, 1)), (5, 4, 3, 2, 1, 0))
        self.assertEqual(short_ones_first(world, (9, 10, 2, 10, 9, 2)), (2, 5, 0, 4, 1, 3))
        self.assertEqual(short_ones_first((1, ((5, 5),)), (5,)), (0,))

    def test_of_ten_works(self):
        world = (2, ((1, 99),) * 10)
        self.assertEqual(short_ones_first(world, (99, 10, 9, 1, 2, 2, 11, 1, 98, 9)), (3, 7, 4, 5, 2, 9, 1, 6, 8, 0))

    def test_no_row_is_waited_less_in(self):
        for world in [world for world in SMALL_WORLDS if len(world[1]) == 4][:20]:
            for lengths in some_lengths(world, 54):
                waits = [waits_in(world, lengths, row) for row in itertools.permutations(range(4))]
                self.assertEqual(waits_in(world, lengths, short_ones_first(world, lengths)), min(waits))


class BestRowTest(unittest.TestCase):
    def assert_best(self, world, lengths):
        earliest = None
        for row in itertools.permutations(range(len(lengths))):
            last = len(timeline(world[0], lengths, row))
            if earliest is None or last < earliest:
                earliest, best = last, row
        self.assertEqual(best_row(world, lengths), best, (world, lengths))
        self.assertEqual(finish_in(world, lengths, best), earliest)

    def test_against_all_rows(self):
        for world in SMALL_WORLDS:
            if len(world[1]) < 5:
                self.assert_best(world, some_lengths(world, 55)[0])
        for lengths in all_lengths((2, ((1, 3),) * 4)):
            self.assert_best((2, ((1, 3),) * 4), lengths)

    def test_against_all_rows_of_5_and_6_works(self):
        step = numbers(56)
        for works, many in ((5, 12), (6, 8)):
            for again in range(many):
                lengths = tuple(1 + next(step) % 9 for work in range(works))
                self.assert_best((1 + again % 4, ((1, 9),) * works), lengths)

    def test_of_several_the_least_tuple(self):
        self.assertEqual(best_row((1, ((1, 9),) * 6), (9, 8, 7, 6, 5, 4)), (0, 1, 2, 3, 4, 5))
        self.assertEqual(best_row((4, ((1, 9),) * 3), (9, 8, 7)), (0, 1, 2))
        self.assertEqual(best_row((2, ((1, 9),) * 3), (1, 1, 2)), (0, 2, 1))
        self.assertEqual(best_row((2, ((1, 9),) * 3), (2, 1, 1)), (0, 1, 2))
        self.assertEqual(best_row((2, ((1, 9),) * 5), (2, 2, 2, 3, 3)), (0, 3, 1, 4, 2))
        self.assertEqual(best_row((1, ((5, 5),)), (5,)), (0,))

    def test_lengths_beyond_the_bounds_of_the_work_in_whose_place_they_come(self):
        world = (2, ((1, 1), (2, 2), (9, 9)))
        self.assertEqual(best_row(world, (1, 2, 9)), (0, 2, 1))
        self.assertEqual(finish_in(world, (1, 2, 9), (2, 0, 1)), 9)
        self.assertEqual(waits_in(world, (1, 2, 9), (2, 0, 1)), 1)

    def test_too_many_of_7_works_and_more_and_none_of_6(self):
        for benches in range(1, 5):
            self.assertEqual(best_row((benches, ((1, 1),) * 6), (1,) * 6), (0, 1, 2, 3, 4, 5))
            for works in range(7, 11):
                with self.assertRaises(TooMany):
                    best_row((benches, ((1, 1),) * works), (1,) * works)

    def test_no_world_and_no_lengths_go_ahead_of_too_many(self):
        for works in range(7, 11):
            good = (1,) * works
            for world in [(0, ((1, 1),) * works), (5, ((1, 1),) * works), (True, ((1, 1),) * works)]:
                with self.assertRaises(NoWorld):
                    best_row(world, good)
            for lengths in [good[1:], good + (1,), list(good), (2,) + good[1:], good[1:] + (True,), None, good[:6]]:
                with self.assertRaises(NoLengths):
                    best_row((2, ((1, 1),) * works), lengths)
        with self.assertRaises(NoWorld):
            best_row((2, ((1, 1),) * 11), (1,) * 11)

    def test_the_other_functions_are_not_refused_for_many_works(self):
        world, lengths = (2, ((1, 9),) * 10), (1, 2, 3, 4, 5, 6, 7, 8, 9, 1)
        self.assertEqual(finish(world, lengths), 25)
        self.assertEqual(begin_moments(world, lengths), [0, 0, 1, 2, 4, 6, 9, 12, 16, 20])
        self.assertEqual(short_ones_first(world, lengths), (0, 9, 1, 2, 3, 4, 5, 6, 7, 8))
        row = (9, 8, 7, 6, 5, 4, 3, 2, 1, 0)
        self.assertEqual(finish_in(world, lengths, row), len(timeline(2, lengths, row)))


class InRowTest(unittest.TestCase):
    def assert_in_row(self, world, lengths, row):
        told = timeline(world[0], lengths, row)
        self.assertEqual(finish_in(world, lengths, row), len(told), (world, lengths, row))
        waits = sum(begin_of(told, work) for work in row)
        self.assertEqual(waits_in(world, lengths, row), waits, (world, lengths, row))

    def test_all_rows_of_small_worlds(self):
        for world in [world for world in SMALL_WORLDS if len(world[1]) < 5]:
            lengths = some_lengths(world, 57)[0]
            for row in itertools.permutations(range(len(lengths))):
                self.assert_in_row(world, lengths, row)

    def test_rows_of_many_works(self):
        for start, world in enumerate(LARGE_WORLDS):
            for lengths in some_lengths(world, 58):
                for row in some_rows(len(lengths), start):
                    self.assert_in_row(world, lengths, row)

    def test_one_bench(self):
        world = (1, ((1, 9),) * 3)
        self.assertEqual([finish_in(world, (2, 5, 1), row) for row in [(0, 1, 2), (2, 0, 1), (1, 0, 2)]], [8, 8, 8])
        self.assertEqual([waits_in(world, (2, 5, 1), row) for row in [(0, 1, 2), (2, 0, 1), (1, 0, 2)]], [9, 4, 12])

    def test_more_benches_than_works(self):
        world = (4, ((1, 9),) * 3)
        for row in itertools.permutations(range(3)):
            self.assertEqual((finish_in(world, (2, 5, 1), row), waits_in(world, (2, 5, 1), row)), (5, 0))

    def test_to_the_letter(self):
        self.assertEqual(finish_in(WORLD, (3, 4, 5, 6), (3, 2, 1, 0)), 9)
        self.assertEqual(waits_in(WORLD, (3, 4, 5, 6), (3, 2, 1, 0)), 11)
        self.assertEqual(finish_in(WORLD, (3, 4, 9, 6), (0, 1, 3, 2)), 13)
        self.assertEqual(waits_in(WORLD, (3, 4, 9, 6), (0, 1, 3, 2)), 7)

    def test_the_row_bears_its_name(self):
        self.assertEqual(finish_in(world=WORLD, lengths=(3, 4, 5, 6), row=(0, 1, 2, 3)), 10)
        self.assertEqual(waits_in(world=WORLD, lengths=(3, 4, 5, 6), row=(0, 1, 2, 3)), 7)


class RefusalTest(unittest.TestCase):
    def test_no_world_goes_ahead_of_all_others(self):
        for world in NO_WORLDS:
            for lengths in [(3, 4, 5, 6), (1,), None, [], (True,)]:
                for function in (finish, begin_moments, short_ones_first, best_row):
                    with self.assertRaises(NoWorld, msg=(function, world)):
                        function(world, lengths)
                for function in (finish_in, waits_in):
                    for row in [(0, 1, 2, 3), (0,), None, []]:
                        with self.assertRaises(NoWorld, msg=(function, world)):
                            function(world, lengths, row)

    def test_no_lengths(self):
        for lengths in NO_LENGTHS:
            for function in (finish, begin_moments, short_ones_first, best_row):
                with self.assertRaises(NoLengths, msg=(function, lengths)):
                    function(WORLD, lengths)

    def test_no_lengths_go_ahead_of_no_row(self):
        for lengths in NO_LENGTHS:
            for function in (finish_in, waits_in):
                for row in [(0, 1, 2, 3), (0, 1, 2), None, [0, 1, 2, 3], (False, 1, 2, 3)]:
                    with self.assertRaises(NoLengths, msg=(function, lengths, row)):
                        function(WORLD, lengths, row)

    def test_no_row(self):
        for row in NO_ROWS:
            for function in (finish_in, waits_in):
                with self.assertRaises(NoRow, msg=(function, row)):
                    function(WORLD, (3, 4, 5, 6), row)

    def test_no_row_of_one_work_and_of_ten(self):
        for row in [(), (1,), (-1,), (False,), (0, 0), [0], 0, None, "0", (None,), ((0,),)]:
            for function in (finish_in, waits_in):
                with self.assertRaises(NoRow, msg=(function, row)):
                    function((3, ((1, 1),)), (1,), row)
        good = tuple(range(10))
        longer, doubled = good + (10,), good[:9] + (8,)
        for row in [good[1:], good[:-1], longer, longer[1:], doubled, (False,) + good[1:], list(good)]:
            for function in (finish_in, waits_in):
                with self.assertRaises(NoRow, msg=(function, row)):
                    function((3, ((1, 1),) * 10), (1,) * 10, row)


if __name__ == "__main__":
    unittest.main()
