"""Points [1], [2] and [13]: what benches do, when they are idle, and how many are needed."""

import unittest

from benchends.benching import at_work, busy, fewest_benches, idle, with_benches
from benchends.errors import NoLengths, NoNumber, NoWorld
from benchends.orders import benches
from benchends.rowing import finish
from helper import (
    LARGE_WORLDS, NO_LENGTHS, NO_NUMBERS, NO_WORLDS, SMALL_WORLDS, WORLD, some_lengths, timeline,
)

ALL_WORLDS = SMALL_WORLDS + LARGE_WORLDS

GOOD = (3, 4, 5, 6)

NO_MOMENTS = NO_NUMBERS + [-1, -2, 10000, 10001, 10 ** 400, -10 ** 400, "5", (5,), [5], range(5)]

NO_BENCHES = NO_NUMBERS + [0, 5, 6, -1, -2, 10 ** 400, -10 ** 400, "2", (2,), [2], range(2), frozenset([2])]


class WithBenchesTest(unittest.TestCase):
    def test_the_same_bounds_by_1_to_4_benches(self):
        for world in ALL_WORLDS:
            for many in range(1, 5):
                self.assertEqual(with_benches(world, many), (many, world[1]))

    def test_what_is_told_is_a_world(self):
        for many in range(1, 5):
            told = with_benches(WORLD, many)
            self.assertEqual([type(told), type(told[0]), type(told[1])], [tuple, int, tuple])
            self.assertEqual(len(busy(told, GOOD)), many)
            self.assertEqual(with_benches(told, 2), WORLD)

    def test_the_world_that_was_handed_in_stands_as_it_was(self):
        world = (2, ((1, 2), (3, 4)))
        with_benches(world, 3)
        self.assertEqual(world, (2, ((1, 2), (3, 4))))

    def test_no_number(self):
        for many in NO_BENCHES:
            with self.assertRaises(NoNumber, msg=many):
                with_benches(WORLD, many)

    def test_no_world_goes_ahead_of_no_number(self):
        for world in NO_WORLDS:
            for many in [2, 0, 5, True, None, "2"]:
                with self.assertRaises(NoWorld, msg=world):
                    with_benches(world, many)


class FewestBenchesTest(unittest.TestCase):
    def fewest(self, world, lengths, by):
        for many in range(1, 5):
            if len(timeline(many, lengths, range(len(lengths)))) <= by:
                return many
        return None

    def test_against_finish_of_each(self):
        for world in ALL_WORLDS:
            lengths = some_lengths(world, 61)[0]
            ends = {finish(with_benches(world, many), lengths) for many in range(1, 5)}
            for by in sorted({last + more for last in ends for more in (-1, 0, 1)} | {0, 9999}):
                expected = self.fewest(world, lengths, by)
                self.assertEqual(fewest_benches(world, lengths, by), expected, (world, lengths, by))

    def test_the_moment_at_which_all_end_and_the_one_ahead_of_it(self):
        world, lengths = (3, ((1, 9),) * 4), (4, 3, 2, 1)
        ends = [finish(with_benches(world, many), lengths) for many in range(1, 5)]
        self.assertEqual(ends, [10, 5, 4, 4])
        told = [fewest_benches(world, lengths, by) for by in range(12)]
        self.assertEqual(told, [None, None, None, None, 3, 2, 2, 2, 2, 2, 1, 1])

    def test_0_and_9999(self):
        for world in ALL_WORLDS:
            lengths = some_lengths(world, 62)[0]
            self.assertIsNone(fewest_benches(world, lengths, 0))
            self.assertEqual(fewest_benches(world, lengths, 9999), 1)

    def test_none_where_four_benches_are_too_few(self):
        world = (1, ((9, 9),) * 5)
        self.assertIsNone(fewest_benches(world, (9,) * 5, 17))
        self.assertEqual(fewest_benches(world, (9,) * 5, 18), 3)
        self.assertIsNone(fewest_benches((1, ((99, 99),) * 10), (99,) * 10, 296))
        self.assertEqual(fewest_benches((1, ((99, 99),) * 10), (99,) * 10, 297), 4)

    def test_the_worlds_own_benches_do_not_matter(self):
        for many in range(1, 5):
            told = [fewest_benches((many, WORLD[1]), GOOD, by) for by in (5, 6, 8, 9, 10, 17, 18)]
            self.assertEqual(told, [None, 4, 4, 3, 2, 2, 1])

    def test_more_benches_than_works(self):
        self.assertEqual([fewest_benches((4, ((5, 5),)), (5,), by) for by in (4, 5, 6)], [None, 1, 1])

    def test_no_number(self):
        for by in NO_MOMENTS:
            with self.assertRaises(NoNumber, msg=by):
                fewest_benches(WORLD, GOOD, by)


class AtWorkTest(unittest.TestCase):
    def test_against_a_count_moment_by_moment(self):
        for world in ALL_WORLDS:
            lengths = some_lengths(world, 63)[0]
            told = timeline(world[0], lengths, range(len(lengths)))
            for moment, expected in enumerate(told):
                self.assertEqual(at_work(world, lengths, moment), list(expected), (world, lengths, moment))
            for moment in (len(told), len(told) + 1, 9999):
                self.assertEqual(at_work(world, lengths, moment), [None] * world[0], (world, lengths, moment))

    def test_from_the_begin_to_the_end_that_one_not_included(self):
        self.assertEqual([at_work(WORLD, GOOD, moment) for moment in (0, 2, 3, 4, 7, 8, 9, 10, 9999)], [
            [0, 1], [0, 1], [2, 1], [2, 3], [2, 3], [None, 3], [None, 3], [None, None], [None, None],
        ])

    def test_benches_that_take_up_nothing(self):
        world = (4, ((1, 9), (1, 9)))
        self.assertEqual(at_work(world, (1, 2), 0), [0, 1, None, None])
        self.assertEqual(at_work(world, (1, 2), 1), [None, 1, None, None])
        self.assertEqual(at_work(world, (1, 2), 2), [None, None, None, None])

    def test_no_number(self):
        for moment in NO_MOMENTS:
            with self.assertRaises(NoNumber, msg=moment):
                at_work(WORLD, GOOD, moment)


class BusyTest(unittest.TestCase):
    def test_against_a_count_moment_by_moment(self):
        for world in ALL_WORLDS:
            for lengths in some_lengths(world, 64):
                told = timeline(world[0], lengths, range(len(lengths)))
                expected = [sum(part[bench] is not None for part in told) for bench in range(world[0])]
                self.assertEqual(busy(world, lengths), expected, (world, lengths))
                self.assertEqual(idle(world, lengths), sum(part.count(None) for part in told), (world, lengths))

    def test_with_what_benches_and_at_work_tell(self):
        for world in LARGE_WORLDS:
            lengths = some_lengths(world, 65)[0]
            expected = [sum(lengths[work] for work in part) for part in benches(world, lengths)]
            self.assertEqual(busy(world, lengths), expected)
            last = finish(world, lengths)
            told = [at_work(world, lengths, moment).count(None) for moment in range(last)]
            self.assertEqual(idle(world, lengths), sum(told))

    def test_to_the_letter(self):
        self.assertEqual((busy(WORLD, GOOD), idle(WORLD, GOOD)), ([8, 10], 2))
        self.assertEqual((busy(WORLD, (5, 4, 9, 2)), idle(WORLD, (5, 4, 9, 2))), ([7, 13], 6))

    def test_benches_that_take_up_nothing(self):
        world = (4, ((1, 9), (1, 9)))
        self.assertEqual((busy(world, (1, 2)), idle(world, (1, 2))), ([1, 2, 0, 0], 5))
        self.assertEqual((busy((4, ((7, 7),)), (7,)), idle((4, ((7, 7),)), (7,))), ([7, 0, 0, 0], 21))

    def test_one_bench_is_never_idle(self):
        self.assertEqual((busy((1, ((1, 9),) * 3), (1, 2, 9)), idle((1, ((1, 9),) * 3), (1, 2, 9))), ([12], 0))

    def test_the_kinds_of_the_answers(self):
        self.assertEqual({type(part) for part in busy(WORLD, GOOD)} | {type(idle(WORLD, GOOD))}, {int})
        self.assertEqual([type(busy(WORLD, GOOD)), type(at_work(WORLD, GOOD, 0))], [list, list])


class RefusalTest(unittest.TestCase):
    def test_no_world_goes_ahead_of_all_others(self):
        for world in NO_WORLDS:
            for lengths in [GOOD, (1,), None, [], (True,)]:
                for function in (busy, idle):
                    with self.assertRaises(NoWorld, msg=(function, world)):
                        function(world, lengths)
                for function in (fewest_benches, at_work):
                    for moment in (0, -1, None, True, 10000):
                        with self.assertRaises(NoWorld, msg=(function, world)):
                            function(world, lengths, moment)

    def test_no_lengths_go_ahead_of_no_number(self):
        for lengths in NO_LENGTHS:
            for function in (busy, idle):
                with self.assertRaises(NoLengths, msg=(function, lengths)):
                    function(WORLD, lengths)
            for function in (fewest_benches, at_work):
                for moment in (0, -1, None, True, 10000, "5"):
                    with self.assertRaises(NoLengths, msg=(function, lengths, moment)):
                        function(WORLD, lengths, moment)

    def test_the_arguments_bear_their_names(self):
        self.assertEqual(with_benches(world=WORLD, many=1), (1, WORLD[1]))
        self.assertEqual(fewest_benches(world=WORLD, lengths=GOOD, by=10), 2)
        self.assertEqual(at_work(world=WORLD, lengths=GOOD, moment=0), [0, 1])


if __name__ == "__main__":
    unittest.main()
