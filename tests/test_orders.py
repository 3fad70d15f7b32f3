"""Points [1], [9] and [10]: who may end next, all orders of all works, and works that are played."""

import unittest

from benchends.could import are_moments, could, lengths
from benchends.errors import Never, NoLengths, NoWorld, TooMany
from benchends.orders import all_orders, benches, may_end, played
from helper import (
    LARGE_WORLDS, NO_NUMBERS, NO_WORLDS, SMALL_WORLDS, THINGS_OF_OTHER_KINDS, WORLD, all_lengths, barred_orders,
    counted_worlds, orders_by_playing, play, some_lengths,
)


class MayEndTest(unittest.TestCase):
    def test_just_those_works_with_which_the_order_can_have_been(self):
        for world, counted in counted_worlds():
            for order in counted:
                expected = [work for work in range(len(world[1])) if order + (work,) in counted]
                self.assertEqual(may_end(world, order), expected, (world, order))

    def test_to_the_letter(self):
        self.assertEqual(may_end(WORLD, ()), [0, 1])
        self.assertEqual(may_end(WORLD, (0,)), [1, 2])
        self.assertEqual(may_end(WORLD, (1,)), [0, 2])
        self.assertEqual(may_end(WORLD, (1, 2)), [0])
        self.assertEqual(may_end((4, ((7, 7),) * 4), (2,)), [0, 1, 3])
        self.assertEqual(may_end((3, ((9, 9), (5, 8), (1, 8))), ()), [1, 2])
        self.assertEqual(may_end((3, ((8, 9), (5, 8), (1, 8))), ()), [0, 1, 2])

    def test_none_behind_an_order_of_all_works(self):
        for world, counted in counted_worlds():
            for order in counted:
                self.assertEqual(may_end(world, order) == [], len(order) == len(world[1]), (world, order))

    def test_orders_of_many_works(self):
        for world in LARGE_WORLDS:
            for some in some_lengths(world, 17):
                order = played(world, some)[0]
                for many in range(len(order)):
                    began = range(min(len(world[1]), world[0] + many))
                    runs = [work for work in began if work not in order[:many]]
                    expected = [work for work in runs if could(world, order[:many] + (work,))]
                    self.assertEqual(may_end(world, order[:many]), expected)
                    self.assertIn(order[many], expected)
                self.assertEqual(may_end(world, order), [])

    def test_never(self):
        for world, order in barred_orders():
            with self.assertRaises(Never, msg=(world, order)):
                may_end(world, order)


class AllOrdersTest(unittest.TestCase):
    def test_just_those_that_can_have_been_rising_and_none_twice(self):
        for world, counted in counted_worlds():
            expected = sorted(order for order in counted if len(order) == len(world[1]))
            self.assertEqual(all_orders(world), expected, world)

    def test_to_the_letter(self):
        self.assertEqual(all_orders((1, ((1, 1),))), [(0,)])
        self.assertEqual(all_orders((2, ((1, 2), (2, 3)))), [(0, 1), (1, 0)])
        self.assertEqual(all_orders((2, ((1, 1), (2, 3)))), [(0, 1)])
        self.assertEqual(all_orders((2, ((4, 4), (2, 3)))), [(1, 0)])
        self.assertEqual(all_orders(WORLD), [
            (0, 1, 2, 3), (0, 1, 3, 2), (0, 2, 1, 3), (1, 0, 2, 3), (1, 0, 3, 2), (1, 2, 0, 3),
        ])

    def test_six_works_that_may_end_in_any_order(self):
        for many in range(1, 5):
            expected = sorted(order for order in orders_by_playing(many, 6) if len(order) == 6)
            self.assertEqual(all_orders((many, ((1, 99),) * 6)), expected, many)

    def test_the_answer_is_a_list_of_tuples(self):
        told = all_orders(WORLD)
        self.assertIs(type(told), list)
        self.assertEqual({type(order) for order in told}, {tuple})

    def test_too_many_of_more_than_6_works(self):
        for works in range(1, 11):
            for many in range(1, 5):
                world = (many, ((3, 3),) * works)
                with self.subTest(world=world):
                    if works > 6:
                        with self.assertRaises(TooMany):
                            all_orders(world)
                    else:
                        self.assertIn(tuple(range(works)), all_orders(world))

    def test_no_world_goes_ahead_of_too_many(self):
        for world in NO_WORLDS + [(0, ((3, 3),) * 7), (5, ((3, 3),) * 7), (2, ((3, 2),) * 7), (2, [(3, 3)] * 7)]:
            with self.subTest(world=world):
                with self.assertRaises(NoWorld):
                    all_orders(world)


class PlayedTest(unittest.TestCase):
    def assert_played(self, world, some):
        ends, done = play(world[0], some)
        order = tuple(work for moment, ended in ends for work in ended)
        moments = [moment for moment, ended in ends for work in ended]
        self.assertEqual(played(world, some), (order, moments), (world, some))
        self.assertEqual(benches(world, some), done, (world, some))

    def test_all_lengths_of_small_worlds(self):
        for world in SMALL_WORLDS:
            for some in all_lengths(world):
                self.assert_played(world, some)

    def test_many_works(self):
        for world in LARGE_WORLDS:
            for some in some_lengths(world, 18):
                self.assert_played(world, some)

    def test_what_is_played_can_have_been_by_its_moments(self):
        for world in LARGE_WORLDS:
            for some in some_lengths(world, 19):
                order, moments = played(world, some)
                self.assertIs(are_moments(world, order, moments), True, (world, some))
                known = (world[0], tuple((length, length) for length in some))
                self.assertEqual(lengths(known, order), list(enumerate(some)))

    def test_to_the_letter(self):
        self.assertEqual(played(WORLD, (3, 4, 5, 6)), ((0, 1, 2, 3), [3, 4, 8, 10]))
        self.assertEqual(benches(WORLD, (3, 4, 5, 6)), [[0, 2], [1, 3]])
        self.assertEqual(played(WORLD, (5, 4, 1, 2)), ((1, 0, 2, 3), [4, 5, 5, 7]))
        self.assertEqual(benches(WORLD, (5, 4, 1, 2)), [[0, 3], [1, 2]])

    def test_ends_of_one_moment_by_their_numbers(self):
        world = (3, ((1, 9),) * 6)
        self.assertEqual(played(world, (4, 4, 4, 4, 4, 4)), ((0, 1, 2, 3, 4, 5), [4, 4, 4, 8, 8, 8]))
        self.assertEqual(played(world, (6, 3, 2, 4, 3, 9)), ((2, 1, 0, 3, 4, 5), [2, 3, 6, 6, 6, 15]))

    def test_the_bench_that_is_free_first_and_of_several_the_first_one(self):
        world = (3, ((1, 9),) * 6)
        self.assertEqual(benches(world, (4, 4, 4, 4, 4, 4)), [[0, 3], [1, 4], [2, 5]])
        self.assertEqual(benches(world, (6, 3, 2, 4, 3, 9)), [[0, 5], [1, 4], [2, 3]])
        self.assertEqual(benches(world, (9, 2, 2, 1, 1, 1)), [[0], [1, 3, 5], [2, 4]])
        self.assertEqual(benches(world, (9, 3, 1, 1, 1, 1)), [[0], [1, 5], [2, 3, 4]])

    def test_more_benches_than_works(self):
        world = (4, ((1, 9), (1, 9)))
        self.assertEqual(played(world, (5, 2)), ((1, 0), [2, 5]))
        self.assertEqual(benches(world, (5, 2)), [[0], [1], [], []])
        self.assertEqual(benches((4, ((1, 1),)), (1,)), [[0], [], [], []])

    def test_one_bench(self):
        world = (1, ((1, 9),) * 4)
        self.assertEqual(played(world, (9, 1, 1, 5)), ((0, 1, 2, 3), [9, 10, 11, 16]))
        self.assertEqual(benches(world, (9, 1, 1, 5)), [[0, 1, 2, 3]])

    def test_the_kinds_of_the_answers(self):
        told = played(WORLD, (3, 4, 5, 6))
        self.assertEqual([type(told)] + [type(part) for part in told], [tuple, tuple, list])
        self.assertEqual({type(moment) for moment in told[1]} | {type(work) for work in told[0]}, {int})
        self.assertEqual([type(part) for part in benches(WORLD, (3, 4, 5, 6))], [list, list])
        self.assertIs(type(benches(WORLD, (3, 4, 5, 6))), list)


class LengthsTest(unittest.TestCase):
    def assert_no_lengths(self, world, thing):
        for function in (played, benches):
            with self.subTest(function=function, world=world, thing=thing):
                with self.assertRaises(NoLengths):
                    function(world, thing)

    def test_lengths_at_the_bounds_are_let_by_and_beyond_by_1_refused(self):
        for world in LARGE_WORLDS + [WORLD]:
            least = tuple(bounds[0] for bounds in world[1])
            greatest = tuple(bounds[1] for bounds in world[1])
            self.assertEqual(len(played(world, least)[0]), len(least))
            self.assertEqual(len(benches(world, greatest)), world[0])
            for work in range(len(least)):
                self.assert_no_lengths(world, least[:work] + (least[work] - 1,) + least[work + 1:])
                self.assert_no_lengths(world, greatest[:work] + (greatest[work] + 1,) + greatest[work + 1:])

    def test_too_few_and_too_many(self):
        good = (3, 4, 5, 6)
        for thing in [(), good[:1], good[:3], good[1:], good + (3,), good + good, good + (None,), (0,) + good]:
            self.assert_no_lengths(WORLD, thing)

    def test_no_tuple(self):
        holding = [[3, 4, 5, 6], {3: 1, 4: 1, 5: 1, 6: 1}, {3, 4, 5, 6}, "3456", range(3, 7)]
        for thing in THINGS_OF_OTHER_KINDS + holding:
            self.assert_no_lengths(WORLD, thing)
            self.assert_no_lengths((1, ((1, 1),)), thing)
        for thing in [[1], {1}, "1", ((1,),), range(1, 2)]:
            self.assert_no_lengths((1, ((1, 1),)), thing)

    def test_what_is_no_length_within_the_tuple(self):
        for work in range(4):
            for thing in NO_NUMBERS + ["4", (4,), [4], -4, 10 ** 400]:
                good = [3, 4, 5, 6]
                good[work] = thing
                self.assert_no_lengths(WORLD, tuple(good))

    def test_true_is_no_length_where_1_is_one(self):
        world = (2, ((1, 1), (1, 9)))
        self.assertEqual(played(world, (1, 1)), ((0, 1), [1, 1]))
        for thing in [(True, 1), (1, True), (True, True), (False, 1)]:
            self.assert_no_lengths(world, thing)

    def test_no_world_goes_ahead_of_no_lengths(self):
        for world in NO_WORLDS:
            for thing in [(1,), (1, 1), None, [], (True,), "1"]:
                for function in (played, benches):
                    with self.subTest(function=function, world=world, thing=thing):
                        with self.assertRaises(NoWorld):
                            function(world, thing)


if __name__ == "__main__":
    unittest.main()
