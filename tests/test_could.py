"""Points [1] and [5]: whether an order can have been, and the moments and lengths by which it can."""

import itertools
import unittest

from benchends.could import are_moments, could, lengths, moments
from benchends.errors import Never
from benchends.orders import played
from benchends.rules import rules
from helper import (
    LARGE_WORLDS, NO_NUMBERS, THINGS_OF_OTHER_KINDS, WORLD, barred_orders, count, counted_orders, length_by, numbers,
    some_lengths,
)

# Worlds, orders that can not have been, and the like that just can.
ONE_TOO_MUCH = [
    # work 0 ends first, though it is longer by 1 at the least
    ((2, ((5, 9), (1, 4))), (0,), (2, ((5, 9), (1, 5)))),
    ((2, ((5, 9), (1, 4))), (0, 1), (2, ((4, 9), (1, 4)))),
    # works 0 and 2 of one bench end ahead of work 1
    ((2, ((2, 3), (1, 4), (3, 7))), (0, 2), (2, ((2, 3), (1, 5), (3, 7)))),
    ((2, ((2, 3), (1, 4), (3, 7))), (0, 2, 1), (2, ((1, 3), (1, 4), (3, 7)))),
    # work 0 runs till three others ended, one by one
    ((2, ((1, 5), (2, 2), (2, 2), (2, 2))), (1, 2, 3), (2, ((1, 6), (2, 2), (2, 2), (2, 2)))),
    # work 2 runs and began with the first end
    ((2, ((1, 1), (9, 9), (1, 7))), (0, 1), (2, ((1, 1), (9, 9), (1, 8)))),
]


class CouldTest(unittest.TestCase):
    def test_orders_that_are_played_can_have_been(self):
        for world, order, plays in counted_orders():
            self.assertIs(could(world, order), True, (world, order))

    def test_orders_that_are_never_played_can_not(self):
        for world, order in barred_orders():
            self.assertIs(could(world, order), False, (world, order))

    def test_edges_by_one(self):
        for barred, order, world in ONE_TOO_MUCH:
            with self.subTest(barred=barred, order=order):
                self.assertIs(could(barred, order), False)
                self.assertIs(could(world, order), True)

    def test_works_that_end_at_one_moment_are_told_in_any_order(self):
        for order in itertools.permutations(range(4)):
            self.assertIs(could((4, ((7, 7),) * 4), order), True, order)

    def test_an_order_of_no_work_can_always_have_been(self):
        for world in LARGE_WORLDS:
            self.assertIs(could(world, ()), True, world)

    def test_orders_of_many_works_that_are_played_can_have_been(self):
        for world in LARGE_WORLDS:
            for some in some_lengths(world, 8):
                order = played(world, some)[0]
                for many in range(len(order) + 1):
                    self.assertIs(could(world, order[:many]), True, (world, order[:many]))


class MomentsTest(unittest.TestCase):
    def test_each_end_is_as_early_as_in_any_play(self):
        for world, order, plays in counted_orders():
            earliest = [min(ends[k] for some, ends in plays) for k in range(len(order))]
            self.assertEqual(moments(world, order), earliest, (world, order))

    def test_the_earliest_moments_are_those_of_one_play(self):
        for world, order, plays in counted_orders():
            self.assertIn(tuple(moments(world, order)), [ends for some, ends in plays], (world, order))

    def test_no_end(self):
        self.assertEqual(moments(WORLD, ()), [])
        self.assertEqual(lengths(WORLD, ()), [])

    def test_all_ends(self):
        self.assertEqual(moments(WORLD, (0, 1, 2, 3)), [3, 4, 4, 6])
        self.assertEqual(moments(WORLD, (1, 0, 3, 2)), [4, 4, 6, 6])
        self.assertEqual(moments((1, ((99, 99),) * 10), tuple(range(10))), list(range(99, 991, 99)))

    def test_a_later_end_can_push_an_earlier_one_off(self):
        # Work 2 is at most 3 long, and ends behind work 1: so it begins, with the end of work 0, no earlier than 7.
        world = (2, ((1, 9), (10, 10), (1, 3)))
        self.assertEqual(moments(world, (0,)), [1])
        self.assertEqual(moments(world, (0, 1, 2)), [7, 10, 10])
        # It does so too while it only runs.
        self.assertEqual(moments(world, (0, 1)), [7, 10])

    def test_they_are_no_later_than_when_many_works_are_played(self):
        for world in LARGE_WORLDS:
            for some in some_lengths(world, 9):
                order, ends = played(world, some)
                for many in range(len(order) + 1):
                    earliest = moments(world, order[:many])
                    self.assertEqual(len(earliest), many)
                    self.assertTrue(all(early <= end for early, end in zip(earliest, ends)), (world, order))

    def test_never(self):
        for world, order in barred_orders():
            for function in (moments, lengths):
                with self.assertRaises(Never, msg=(function, world, order)):
                    function(world, order)


class LengthsTest(unittest.TestCase):
    def test_lengths_are_those_by_the_earliest_moments(self):
        for world, order, plays in counted_orders():
            ends = tuple(min(ends[k] for some, ends in plays) for k in range(len(order)))
            expected = {tuple((work, some[work]) for work in sorted(order)) for some, at in plays if at == ends}
            self.assertEqual({tuple(lengths(world, order))}, expected, (world, order))

    def test_to_the_letter(self):
        self.assertEqual(lengths(WORLD, (1, 2, 0)), [(0, 5), (1, 4), (2, 1)])
        self.assertEqual(lengths(WORLD, (1,)), [(1, 4)])
        self.assertEqual(lengths(WORLD, (0, 1, 2, 3)), [(0, 3), (1, 4), (2, 1), (3, 2)])
        self.assertEqual(lengths((2, ((1, 9), (10, 10), (1, 3))), (0, 1, 2)), [(0, 7), (1, 10), (2, 3)])


class AreMomentsTest(unittest.TestCase):
    def test_told_moments_are_let_by(self):
        for world, order, plays in counted_orders():
            self.assertIs(are_moments(world, order, moments(world, order)), True, (world, order))
        for world in LARGE_WORLDS:
            order, ends = played(world, some_lengths(world, 10)[0])
            for many in range(len(order) + 1):
                self.assertIs(are_moments(world, order[:many], moments(world, order[:many])), True)
                self.assertIs(are_moments(world, order[:many], ends[:many]), True)

    def test_just_the_moments_of_plays_are_let_by(self):
        for world, order, plays in counted_orders():
            if len(order) <= 3:
                played_ends = {ends for some, ends in plays}
                latest = max([end for ends in played_ends for end in ends], default=0)
                for ends in itertools.product(range(latest + 2), repeat=len(order)):
                    told = are_moments(world, order, list(ends))
                    self.assertIs(told, ends in played_ends, (world, order, ends))

    def test_no_moments_are_let_by_of_an_order_that_can_not_have_been(self):
        for world, order in barred_orders():
            latest = sum(greatest for least, greatest in world[1])
            if (latest + 1) ** len(order) < 1000:
                for ends in itertools.product(range(latest + 1), repeat=len(order)):
                    self.assertIs(are_moments(world, order, list(ends)), False, (world, order, ends))

    def test_a_rule_that_is_broken_by_one(self):
        one_bench = (1, ((3, 5), (2, 4)))
        self.assert_told(one_bench, (0, 1), True, [[3, 5], [3, 7], [5, 7], [5, 9], [4, 7]])
        self.assert_told(one_bench, (0, 1), False, [[2, 4], [6, 9], [3, 4], [3, 8], [5, 6], [5, 10]])
        # The next work runs from the moment on at which the first one ends.
        self.assert_told(one_bench, (0,), True, [[3], [5]])
        self.assert_told(one_bench, (0,), False, [[2], [6]])

    def test_ends_that_go_back_by_one(self):
        world = (2, ((3, 5), (3, 5)))
        self.assert_told(world, (0, 1), True, [[3, 3], [3, 5], [4, 4], [5, 5]])
        self.assert_told(world, (0, 1), False, [[4, 3], [5, 4], [2, 3], [5, 6]])

    def test_a_work_that_runs_longer_than_it_can_by_one(self):
        world = (2, ((3, 5), (4, 9), (1, 2)))
        self.assert_told(world, (1,), True, [[4], [5]])
        self.assert_told(world, (1,), False, [[3], [6]])
        # Work 2 began with the first end.
        self.assert_told(world, (0, 1), True, [[3, 5], [5, 7], [4, 4]])
        self.assert_told(world, (0, 1), False, [[3, 6], [5, 8]])

    def test_a_rule_of_each_kind_that_is_broken_alone_by_one(self):
        alone = set()
        for world, order in [(WORLD, (1, 0)), (WORLD, (0, 1, 2)), ((2, ((2, 4), (2, 4), (1, 2))), (0, 1))]:
            told = rules(world, order)
            for ends in itertools.product(range(16), repeat=len(order)):
                at = (0,) + ends
                over = [(at[one] - at[other] - most, place) for place, (one, other, most) in enumerate(told)]
                broken = [(by, place) for by, place in over if by > 0]
                if len(broken) == 1 and broken[0][0] == 1:
                    place = broken[0][1]
                    alone.add(place % 3 if place < 3 * len(order) else "runs")
                    self.assertIs(are_moments(world, order, list(ends)), False, (world, order, ends))
        self.assertEqual(alone, {0, 1, 2, "runs"})

    def test_lists_of_another_size(self):
        for world, order, good in [(WORLD, (1, 2, 0), [4, 5, 5]), (WORLD, (1,), [4]), (WORLD, (), [])]:
            self.assert_told(world, order, True, [good])
            longer = [good + [more] for more in (0, 4, 5, 6, 9, None)] + [[0] + good, good + good + [0]]
            self.assert_told(world, order, False, longer + [good[:many] for many in range(len(good))])

    def test_numbers_below_0_and_beyond_9999(self):
        for place in range(3):
            for number in (-1, -2, -9999, 9999, 10000, 10001, 10 ** 400, -10 ** 400):
                ends = [4, 5, 5]
                ends[place] = number
                self.assert_told(WORLD, (1, 2, 0), False, [ends])
        self.assert_told((1, ((1, 1),)), (0,), False, [[-1], [0], [2], [10000]])

    def test_things_of_other_kinds(self):
        others = [thing for thing in THINGS_OF_OTHER_KINDS if not isinstance(thing, list)]
        things = others + [(), (4, 5, 5), {4: True, 5: True}, {0: 4, 1: 5, 2: 5}, "455", range(4, 7), [[4, 5, 5]]]
        self.assert_told(WORLD, (1, 2, 0), False, things + [[]])
        self.assert_told(WORLD, (), False, things + [[0]])
        self.assert_told(WORLD, (1,), False, things + [(4,), {4}, "4"])

    def test_things_of_other_kinds_within_the_list(self):
        for place in range(3):
            for thing in NO_NUMBERS + ["5", (5,), [5]]:
                ends = [4, 5, 5]
                ends[place] = thing
                self.assert_told(WORLD, (1, 2, 0), False, [ends])

    def test_true_and_false_are_no_moments(self):
        world = (1, ((1, 1), (1, 1)))
        self.assert_told(world, (0, 1), True, [[1, 2]])
        self.assert_told(world, (0, 1), False, [[True, 2], [1, True], [False, 2], [True, True]])

    def test_moments_of_many_works_that_are_changed_by_one(self):
        step = numbers(11)
        for world in LARGE_WORLDS:
            order, ends = played(world, some_lengths(world, 12)[0])
            for place in range(len(order)):
                changed = list(ends)
                changed[place] += 1 - 2 * (next(step) % 2)
                at = [0] + changed
                expected = all(at[one] - at[other] <= most for one, other, most in rules(world, order))
                self.assertIs(are_moments(world, order, changed), expected, (world, order, changed))

    def assert_told(self, world, order, expected, things):
        for thing in things:
            with self.subTest(world=world, order=order, thing=thing):
                self.assertIs(are_moments(world, order, thing), expected)


class CountTest(unittest.TestCase):
    """The count that the others are held against, on a world that can be followed by hand."""

    def test_two_works_at_one_moment(self):
        world = (2, ((1, 2), (2, 2), (1, 1)))
        counted = count(world)
        self.assertEqual(set(counted), {
            (), (0,), (1,), (0, 1), (0, 2), (1, 0), (0, 1, 2), (0, 2, 1), (1, 0, 2),
        })
        self.assertEqual(counted[(0, 2, 1)], {((1, 2, 1), (1, 2, 2))})
        self.assertEqual(counted[(0, 1, 2)], {((1, 2, 1), (1, 2, 2)), ((2, 2, 1), (2, 2, 3))})
        self.assertEqual(counted[(1,)], {((2, 2, 1), (2,))})

    def test_the_length_of_a_work_by_moments(self):
        for world, order, plays in counted_orders():
            for some, ends in plays:
                for work in order:
                    self.assertEqual(length_by(world, order, ends, work), some[work])


if __name__ == "__main__":
    unittest.main()
