"""Points [1], [2] and [3]: what a world is, what an order is, and what is refused."""

import copy
import itertools
import unittest

from benchends.errors import NoOrder, NoWorld
from benchends.rules import rules
from helper import NO_ORDERS, NO_WORLDS, ONE_WORK, THINGS_OF_OTHER_KINDS, WORLD

GOOD_WORLDS = [
    (1, ONE_WORK),
    (4, ONE_WORK),
    (1, ((2, 3),) * 10),
    (4, ((2, 3),) * 10),
    (2, ((1, 99),)),
    (2, ((99, 99),)),
    (2, ((1, 1), (50, 50), (1, 2), (98, 99))),
    (3, ((7, 8), (7, 7), (1, 9), (2, 6), (5, 5))),
]

NO_BOUNDS_OF_WORK = THINGS_OF_OTHER_KINDS + [
    # too few parts, too many, and what only looks like a pair
    (), (1,), (1, 1, 1), ((1, 1),), [1, 1], {0: 1, 1: 1}, "11", b"11",
    # lengths beyond the edges
    (0, 0), (0, 1), (-1, 1), (-1, -1), (1, 0), (2, 1), (99, 98), (1, 100), (99, 100), (100, 100), (1, 10 ** 400),
    # what is no whole number
    (True, True), (True, 1), (1, True), (False, 1), (False, True), ("1", "2"), ("1", 2), (1, "2"),
    (None, 1), (1, None), (None, None), ((1,), 2), (1, (2,)), ([1], 2), (1, [2]), ({}, 2), (1, {}),
]

GOOD_ORDERS = [
    (), (0,), (1,), (0, 1), (1, 0), (0, 2), (1, 2), (0, 1, 2), (1, 2, 0), (0, 2, 3),
    (0, 1, 2, 3), (1, 0, 2, 3), (1, 2, 3, 0), (0, 1, 3, 2),
]


def works_that_run(world, ended):
    """Plays the row as point [2] tells it, bench by bench; None where a work ends that does not run."""
    row = list(range(len(world[1])))
    at_work = [row.pop(0) for bench in range(world[0]) if row]
    for work in ended:
        if work not in at_work:
            return None
        at_work.remove(work)
        if row:
            at_work.append(row.pop(0))
    return at_work


class WorldTest(unittest.TestCase):
    def assert_no_world(self, thing):
        with self.assertRaises(NoWorld):
            rules(thing, ())

    def test_worlds_at_the_edges_are_let_by(self):
        for world in GOOD_WORLDS:
            with self.subTest(world=world):
                self.assertEqual(len(rules(world, ())), min(world[0], len(world[1])))

    def test_all_numbers_of_benches_and_works_within_the_edges(self):
        for benches, works in itertools.product(range(1, 5), range(1, 11)):
            with self.subTest(benches=benches, works=works):
                self.assertEqual(len(rules((benches, ONE_WORK * works), ())), min(benches, works))

    def test_all_bounds_within_the_edges(self):
        for least, greatest in itertools.product(range(-1, 102), repeat=2):
            world = (1, ((least, greatest),))
            if 1 <= least <= greatest <= 99:
                self.assertEqual(rules(world, ()), [(0, 0, greatest)])
            else:
                self.assert_no_world(world)

    def test_what_is_no_world_is_refused(self):
        for thing in NO_WORLDS:
            with self.subTest(thing=thing):
                self.assert_no_world(thing)

    def test_wrong_bounds_of_a_work_are_refused_at_every_place(self):
        for thing in NO_BOUNDS_OF_WORK:
            for ahead, behind in [(0, 0), (0, 2), (1, 1), (9, 0)]:
                with self.subTest(thing=thing, ahead=ahead, behind=behind):
                    self.assert_no_world((2, ONE_WORK * ahead + (thing,) + ONE_WORK * behind))


class OrderTest(unittest.TestCase):
    def assert_no_order(self, world, thing):
        with self.assertRaises(NoOrder):
            rules(world, thing)

    def test_orders_of_no_work_of_some_and_of_all_are_let_by(self):
        for order in GOOD_ORDERS:
            with self.subTest(order=order):
                self.assertEqual(len(rules(WORLD, order)), 3 * len(order) + min(2, 4 - len(order)))

    def test_what_is_no_order_is_refused(self):
        for thing in NO_ORDERS:
            with self.subTest(thing=thing):
                self.assert_no_order(WORLD, thing)

    def test_more_benches_than_works_make_no_work(self):
        self.assertEqual(len(rules((4, ONE_WORK), (0,))), 3)
        for thing in [(1,), (2,), (3,), (0, 1)]:
            with self.subTest(thing=thing):
                self.assert_no_order((4, ONE_WORK), thing)

    def test_an_order_of_one_world_is_none_of_another(self):
        order = (2, 1, 0)
        self.assertEqual(len(rules((3, ((1, 2),) * 3), order)), 9)
        self.assert_no_order((2, ((1, 2),) * 3), order)
        self.assert_no_order((3, ((1, 2),) * 2), order)

    def test_orders_are_those_in_which_only_running_works_end(self):
        for benches, works in itertools.product(range(1, 5), range(1, 5)):
            world = (benches, ((2, 7),) * works)
            for many in range(works + 2):
                for thing in itertools.product(range(-1, works + 1), repeat=many):
                    if works_that_run(world, thing) is None:
                        self.assert_no_order(world, thing)
                    else:
                        self.assertGreaterEqual(len(rules(world, thing)), 3 * many)


class RefusalTest(unittest.TestCase):
    def test_no_world_goes_ahead_of_no_order(self):
        for world in NO_WORLDS:
            for order in [None, [], (0, 0), (True,), ([],), (9,), "0"]:
                with self.subTest(world=world, order=order):
                    with self.assertRaises(NoWorld):
                        rules(world, order)

    def test_what_is_refused_is_not_changed(self):
        for world, order in [([2, [[1, 1]]], [0]), ((2, [[1, 1]]), [0]), (WORLD, [0, 1]), (WORLD, ([0], {}))]:
            handed_in = copy.deepcopy((world, order))
            with self.subTest(world=world, order=order):
                with self.assertRaises((NoWorld, NoOrder)):
                    rules(world, order)
                self.assertEqual((world, order), handed_in)

    def test_a_refusal_changes_nothing_that_is_told_later(self):
        before = rules(WORLD, (1, 2))
        with self.assertRaises(NoWorld):
            rules((True, ONE_WORK), (1, 2))
        with self.assertRaises(NoOrder):
            rules(WORLD, (1, 1))
        self.assertEqual(rules(WORLD, (1, 2)), before)


if __name__ == "__main__":
    unittest.main()
