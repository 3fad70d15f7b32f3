"""Points [1], [5], [7] and [15]: what an order leaves of lengths and moments."""

import unittest

from benchends.bounds import length
from benchends.could import are_moments, moments
from benchends.errors import Never, NoNumber, NoOrder, NoWorld
from benchends.orders import played
from benchends.tightening import gap_bounds, is_settled, moment_bounds, still, tighter
from helper import (
    LARGE_WORLDS, NO_NUMBERS, NO_ORDERS, NO_WORLDS, WORLD, barred_orders, counted_orders, counted_worlds, some_lengths,
)

OF_WORLD_AND_ORDER = (tighter, moment_bounds, is_settled, still)


def large_orders():
    """Orders of worlds of many works that can have been, of no work, of some and of all."""
    for world in LARGE_WORLDS:
        for some in some_lengths(world, 81)[:1]:
            order = played(world, some)[0]
            for many in (0, 1, len(order) // 2, len(order) - 1, len(order)):
                yield world, order[:many]


def least_and_most(found):
    return min(found), max(found)


class TighterTest(unittest.TestCase):
    def test_against_all_lengths(self):
        for world, order, plays in counted_orders():
            expected = list(world[1])
            for work in order:
                expected[work] = least_and_most([lengths[work] for lengths, ends in plays])
            self.assertEqual(tighter(world, order), (world[0], tuple(expected)), (world, order))

    def test_works_that_run_or_did_not_begin_keep_their_bounds(self):
        for world, order in large_orders():
            told = tighter(world, order)
            for work, bounds in enumerate(world[1]):
                self.assertEqual(told[1][work], length(world, order, work) if work in order else bounds)

    def test_tighter_again_nothing_more(self):
        for world, order, plays in counted_orders():
            told = tighter(world, order)
            self.assertEqual(tighter(told, order), told, (world, order))
        for world, order in large_orders():
            told = tighter(world, order)
            self.assertEqual(tighter(told, order), told, (world, order))

    def test_the_tighter_world_leaves_the_same_moments(self):
        for world, order in large_orders():
            self.assertEqual(moment_bounds(tighter(world, order), order), moment_bounds(world, order))

    def test_to_the_letter(self):
        self.assertEqual(tighter(WORLD, ()), WORLD)
        self.assertEqual(tighter(WORLD, (0,)), (2, ((3, 4), (4, 4), (1, 9), (2, 6))))
        self.assertEqual(tighter(WORLD, (1, 2, 0)), (2, ((5, 5), (4, 4), (1, 1), (2, 6))))
        self.assertEqual(tighter(WORLD, (0, 1, 2, 3)), (2, ((3, 4), (4, 4), (1, 7), (2, 6))))

    def test_the_kinds_of_the_answer(self):
        told = tighter(WORLD, (0,))
        self.assertEqual([type(told), type(told[0]), type(told[1]), type(told[1][0])], [tuple, int, tuple, tuple])


class MomentBoundsTest(unittest.TestCase):
    def test_against_all_lengths(self):
        for world, order, plays in counted_orders():
            expected = [least_and_most([ends[end] for lengths, ends in plays]) for end in range(len(order))]
            self.assertEqual(moment_bounds(world, order), expected, (world, order))
            settled = len({ends for lengths, ends in plays}) == 1
            self.assertIs(is_settled(world, order), settled, (world, order))

    def test_both_settled_orders_and_others_are_among_these(self):
        found = {(len(order), is_settled(world, order)) for world, order, plays in counted_orders()}
        for many in range(1, 5):
            self.assertTrue({(many, True), (many, False)} <= found)
        self.assertNotIn((0, False), found)

    def test_the_earliest_and_the_latest_moments_of_all_ends_are_moments(self):
        for world, order in large_orders():
            told = moment_bounds(world, order)
            self.assertEqual([earliest for earliest, latest in told], moments(world, order))
            self.assertTrue(are_moments(world, order, [earliest for earliest, latest in told]))
            self.assertTrue(are_moments(world, order, [latest for earliest, latest in told]))

    def test_works_that_end_at_one_moment_told_in_any_order(self):
        world = (3, ((4, 4), (4, 4), (4, 4)))
        for order in [(0, 1, 2), (2, 1, 0), (1, 2, 0)]:
            self.assertEqual(moment_bounds(world, order), [(4, 4)] * 3)
            self.assertIs(is_settled(world, order), True)
        world = (2, ((1, 4), (4, 6)))
        self.assertEqual(moment_bounds(world, (1, 0)), [(4, 4), (4, 4)])
        self.assertIs(is_settled(world, (1, 0)), True)
        self.assertEqual(moment_bounds(world, (0, 1)), [(1, 4), (4, 6)])
        self.assertIs(is_settled(world, (0, 1)), False)

    def test_an_order_of_no_work_is_settled(self):
        for world in LARGE_WORLDS + [WORLD]:
            self.assertEqual(moment_bounds(world, ()), [])
            self.assertIs(is_settled(world, ()), True)

    def test_works_that_run_bound_the_moments_too(self):
        world = (2, ((1, 9), (3, 5)))
        self.assertEqual(moment_bounds(world, (0,)), [(1, 5)])
        self.assertEqual(moment_bounds(world, (1,)), [(3, 5)])

    def test_to_the_letter(self):
        self.assertEqual(moment_bounds(WORLD, (1, 2, 0)), [(4, 4), (5, 5), (5, 5)])
        self.assertEqual(moment_bounds(WORLD, (0, 1, 2)), [(3, 4), (4, 4), (4, 10)])
        self.assertIs(is_settled(WORLD, (1, 2, 0)), True)
        self.assertIs(is_settled(WORLD, (0, 1, 2)), False)

    def test_one_end_that_is_not_settled_suffices(self):
        world = (2, ((1, 1), (5, 9), (1, 1)))
        self.assertIs(is_settled(world, (0, 2)), True)
        self.assertIs(is_settled(world, (0, 2, 1)), False)

    def test_the_kinds_of_the_answer(self):
        told = moment_bounds(WORLD, (0, 1, 2))
        self.assertEqual([type(told)] + [type(part) for part in told], [list, tuple, tuple, tuple])
        self.assertEqual({type(moment) for part in told for moment in part}, {int})


class GapBoundsTest(unittest.TestCase):
    def test_against_all_lengths(self):
        for world, order, plays in counted_orders():
            found = {(0,) + ends for lengths, ends in plays}
            for one in range(len(order) + 1):
                for other in range(len(order) + 1):
                    expected = least_and_most([events[one] - events[other] for events in found])
                    self.assertEqual(gap_bounds(world, order, one, other), expected, (world, order, one, other))

    def test_of_an_event_and_itself(self):
        for world, order in large_orders():
            for event in range(len(order) + 1):
                self.assertEqual(gap_bounds(world, order, event, event), (0, 0))

    def test_the_other_way_round_turned(self):
        for world, order in large_orders():
            for one in range(0, len(order) + 1, 2):
                for other in range(one):
                    least, most = gap_bounds(world, order, one, other)
                    self.assertEqual(gap_bounds(world, order, other, one), (-most, -least))
                    self.assertTrue(0 <= least <= most, (world, order, one, other))

    def test_of_an_end_and_event_0_as_in_moment_bounds(self):
        for world, order in large_orders():
            told = [gap_bounds(world, order, end, 0) for end in range(1, len(order) + 1)]
            self.assertEqual(told, moment_bounds(world, order))

    def test_of_the_end_and_the_begin_of_a_work_as_its_length(self):
        for world, order in large_orders():
            for end, work in enumerate(order, start=1):
                told = gap_bounds(world, order, end, max(0, work - world[0] + 1))
                self.assertEqual(told, length(world, order, work))

    def test_to_the_letter(self):
        self.assertEqual(gap_bounds(WORLD, (0, 1, 2), 3, 1), (1, 7))
        self.assertEqual(gap_bounds(WORLD, (0, 1, 2), 1, 3), (-7, -1))
        self.assertEqual(gap_bounds(WORLD, (0, 1, 2), 2, 1), (0, 1))
        self.assertEqual(gap_bounds(WORLD, (), 0, 0), (0, 0))

    def test_no_number(self):
        for world, order in [(WORLD, (0, 1, 2)), (WORLD, ()), (WORLD, (0,)), ((2, ((1, 9),) * 10), tuple(range(10)))]:
            last = len(order)
            for thing in NO_NUMBERS + [-1, -2, last + 1, last + 2, 10 ** 400, -10 ** 400, "2", (0,), [0]]:
                for one, other in [(thing, 0), (0, thing), (thing, last), (last, thing), (thing, thing)]:
                    with self.assertRaises(NoNumber, msg=(order, thing)):
                        gap_bounds(world, order, one, other)

    def test_the_last_event_is_one(self):
        self.assertEqual(gap_bounds(WORLD, (0,), 1, 1), (0, 0))
        self.assertEqual(gap_bounds(WORLD, (0, 1, 2, 3), 4, 4), (0, 0))

    def test_which_refusal_comes_first(self):
        for one, other in [(0, 0), (-1, 0), (0, None), (True, True), ("0", [])]:
            for world in NO_WORLDS:
                with self.assertRaises(NoWorld, msg=world):
                    gap_bounds(world, (0, 1), one, other)
            for order in NO_ORDERS:
                with self.assertRaises(NoOrder, msg=order):
                    gap_bounds(WORLD, order, one, other)
            for world, order in list(barred_orders())[::20]:
                with self.assertRaises(Never, msg=(world, order)):
                    gap_bounds(world, order, one, other)


class StillTest(unittest.TestCase):
    def test_against_all_lengths(self):
        for world, order, plays in counted_orders():
            began = range(min(len(world[1]), world[0] + len(order)))
            expected = []
            for work in [work for work in began if work not in order]:
                begin = max(0, work - world[0] + 1)
                left = [((0,) + ends)[begin] + lengths[work] - ((0,) + ends)[-1] for lengths, ends in plays]
                expected.append((work, max(left)))
            self.assertEqual(still(world, order), expected, (world, order))

    def test_an_order_of_no_work(self):
        for world in LARGE_WORLDS + [WORLD]:
            expected = [(work, world[1][work][1]) for work in range(min(world[0], len(world[1])))]
            self.assertEqual(still(world, ()), expected)

    def test_an_order_of_all_works(self):
        for world, order in large_orders():
            if len(order) == len(world[1]):
                self.assertEqual(still(world, order), [])

    def test_with_gap_bounds(self):
        for world, order in large_orders():
            for work, left in still(world, order):
                least_run = gap_bounds(world, order, len(order), max(0, work - world[0] + 1))[0]
                self.assertEqual(left, world[1][work][1] - least_run)

    def test_to_the_letter(self):
        self.assertEqual(still(WORLD, ()), [(0, 5), (1, 4)])
        self.assertEqual(still(WORLD, (0,)), [(1, 1), (2, 9)])
        self.assertEqual(still(WORLD, (1,)), [(0, 1), (2, 9)])
        self.assertEqual(still(WORLD, (1, 2)), [(0, 0), (3, 6)])
        self.assertEqual(still(WORLD, (0, 1)), [(2, 9), (3, 6)])
        self.assertEqual(still(WORLD, (0, 1, 2)), [(3, 6)])

    def test_the_kinds_of_the_answer(self):
        told = still(WORLD, (0,))
        self.assertEqual([type(told)] + [type(part) for part in told], [list, tuple, tuple])
        self.assertEqual({type(number) for part in told for number in part}, {int})


class RefusalTest(unittest.TestCase):
    def test_never(self):
        barred = list(barred_orders())
        self.assertGreater(len(barred), 1000)
        for world, order in barred:
            for function in OF_WORLD_AND_ORDER:
                with self.assertRaises(Never, msg=(function, world, order)):
                    function(world, order)
            with self.assertRaises(Never, msg=(world, order)):
                gap_bounds(world, order, 0, 0)

    def test_no_world_then_no_order(self):
        for function in OF_WORLD_AND_ORDER:
            for world in NO_WORLDS:
                for order in [(), (0,), None, (0, 0)]:
                    with self.assertRaises(NoWorld, msg=(function, world)):
                        function(world, order)
            for order in NO_ORDERS:
                with self.assertRaises(NoOrder, msg=(function, order)):
                    function(WORLD, order)

    def test_the_counted_worlds_have_orders_of_all_kinds(self):
        works = {len(world[1]) for world, counted in counted_worlds()}
        self.assertEqual(works, {1, 2, 3, 4, 5, 6})


if __name__ == "__main__":
    unittest.main()
