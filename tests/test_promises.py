"""Point [1], of all functions alike: refusals and which comes first, what is told anew, what is left as it was."""

import copy
import inspect
import unittest

from benchends import benching, bounds, could, orders, rowing, rules
from benchends.errors import Never, NoLengths, NoOrder, NoWorld
from helper import NO_LENGTHS, NO_ORDERS, NO_WORLDS, WORLD

ORDER = (1, 2, 0)
LENGTHS = (3, 4, 5, 6)

# The interface: each function with its arguments, by their names, such that it answers.
INTERFACE = [
    (rules.rules, {"world": WORLD, "order": ORDER}),
    (could.could, {"world": WORLD, "order": ORDER}),
    (could.moments, {"world": WORLD, "order": ORDER}),
    (could.are_moments, {"world": WORLD, "order": ORDER, "thing": [4, 5, 5]}),
    (could.ring, {"world": WORLD, "order": ORDER}),
    (could.ring, {"world": WORLD, "order": (1, 2, 3)}),
    (could.is_ring, {"world": WORLD, "order": (1, 2, 3), "thing": [0, 1]}),
    (could.lengths, {"world": WORLD, "order": ORDER}),
    (bounds.length, {"world": WORLD, "order": ORDER, "work": 2}),
    (bounds.chain, {"world": WORLD, "order": ORDER, "work": 2, "side": "most"}),
    (bounds.chain, {"world": WORLD, "order": ORDER, "work": 0, "side": "least"}),
    (bounds.is_chain, {
        "world": WORLD, "order": ORDER, "work": 2, "side": "most", "number": 1, "thing": [1, 6, 8],
    }),
    (bounds.shown, {"world": WORLD, "order": ORDER, "work": 2, "side": "most"}),
    (bounds.shown, {"world": WORLD, "order": ORDER, "work": 0, "side": "least"}),
    (orders.may_end, {"world": WORLD, "order": (1,)}),
    (orders.all_orders, {"world": WORLD}),
    (orders.played, {"world": WORLD, "lengths": LENGTHS}),
    (orders.benches, {"world": WORLD, "lengths": LENGTHS}),
    (rowing.finish, {"world": WORLD, "lengths": LENGTHS}),
    (rowing.begin_moments, {"world": WORLD, "lengths": LENGTHS}),
    (rowing.short_ones_first, {"world": WORLD, "lengths": LENGTHS}),
    (rowing.best_row, {"world": WORLD, "lengths": LENGTHS}),
    (rowing.finish_in, {"world": WORLD, "lengths": LENGTHS, "row": (3, 2, 1, 0)}),
    (rowing.waits_in, {"world": WORLD, "lengths": LENGTHS, "row": (3, 2, 1, 0)}),
    (benching.with_benches, {"world": WORLD, "many": 3}),
    (benching.fewest_benches, {"world": WORLD, "lengths": LENGTHS, "by": 9}),
    (benching.busy, {"world": WORLD, "lengths": LENGTHS}),
    (benching.idle, {"world": WORLD, "lengths": LENGTHS}),
    (benching.at_work, {"world": WORLD, "lengths": LENGTHS, "moment": 4}),
]

WITH_ORDER = [(function, given) for function, given in INTERFACE if "order" in given]
WITH_LENGTHS = [(function, given) for function, given in INTERFACE if "lengths" in given]


def lists_within(thing):
    """The thing, where it is a list, and all lists within it."""
    found = [thing] if isinstance(thing, list) else []
    if isinstance(thing, (list, tuple)):
        for part in thing:
            found += lists_within(part)
    return found


class InterfaceTest(unittest.TestCase):
    def test_arguments_bear_their_names_and_stand_in_their_order(self):
        for function, given in INTERFACE:
            with self.subTest(function=function):
                self.assertEqual(list(inspect.signature(function).parameters), list(given))
                self.assertEqual(function(*given.values()), function(**given))


class RefusalTest(unittest.TestCase):
    def test_no_world_goes_ahead_of_all_others(self):
        for function, given in INTERFACE:
            others = dict.fromkeys(given)
            for world in NO_WORLDS:
                for rest in (given, others):
                    with self.subTest(function=function, world=world, rest=rest):
                        with self.assertRaises(NoWorld):
                            function(**{**rest, "world": world})

    def test_no_order_goes_ahead_of_all_others_but_no_world(self):
        for function, given in WITH_ORDER:
            others = {**dict.fromkeys(given), "world": WORLD}
            for order in NO_ORDERS:
                for rest in (given, others):
                    with self.subTest(function=function, order=order, rest=rest):
                        with self.assertRaises(NoOrder):
                            function(**{**rest, "order": order})

    def test_no_lengths_go_ahead_of_all_others_but_no_world(self):
        for function, given in WITH_LENGTHS:
            others = {**dict.fromkeys(given), "world": WORLD}
            for lengths in NO_LENGTHS:
                for rest in (given, others):
                    with self.subTest(function=function, lengths=lengths, rest=rest):
                        with self.assertRaises(NoLengths):
                            function(**{**rest, "lengths": lengths})

    def test_no_order_goes_ahead_of_never(self):
        # By these lengths work 0 can not have ended first.
        world = (2, ((9, 9), (1, 1)))
        for function in (could.moments, could.lengths, orders.may_end):
            with self.assertRaises(Never):
                function(world, (0,))
            for order in [(0, 0), (0, 2), [0], (0, True), (0, 1, 1)]:
                with self.assertRaises(NoOrder):
                    function(world, order)

    def test_could_and_ring_are_not_refused_where_an_order_can_not_have_been(self):
        world = (2, ((9, 9), (1, 1)))
        self.assertIs(could.could(world, (0, 1)), False)
        self.assertIs(could.are_moments(world, (0, 1), [9, 9]), False)
        self.assertIs(could.is_ring(world, (0, 1), could.ring(world, (0, 1))), True)


class ToldAnewTest(unittest.TestCase):
    def test_told_lists_are_new_ones_each_time(self):
        for function, given in INTERFACE:
            with self.subTest(function=function):
                one, other = function(**given), function(**given)
                self.assertEqual(one, other)
                found = lists_within(one) + lists_within(other)
                self.assertEqual(len({id(part) for part in found}), len(found))

    def test_changing_what_was_told_changes_nothing_that_is_told_later(self):
        expected = [copy.deepcopy(function(**given)) for function, given in INTERFACE]
        for function, given in INTERFACE:
            for part in lists_within(function(**given)):
                part.append(None)
                part[0] = "changed"
            for part in lists_within(function(**given)):
                part.clear()
        self.assertEqual([function(**given) for function, given in INTERFACE], expected)

    def test_equal_things_give_equal_answers(self):
        for function, given in INTERFACE:
            with self.subTest(function=function):
                expected = function(**given)
                again = (2, tuple(tuple(list(part)) for part in WORLD[1]))
                self.assertEqual(function(**{**given, "world": again}), expected)

    def test_what_is_refused_changes_nothing(self):
        expected = [function(**given) for function, given in INTERFACE]
        for function, given in INTERFACE:
            for name in given:
                try:
                    function(**{**given, name: None})
                except ValueError:
                    pass
        self.assertEqual([function(**given) for function, given in INTERFACE], expected)


class HandedInTest(unittest.TestCase):
    def test_lists_that_are_handed_in_stand_as_they_were(self):
        for thing in [[4, 5, 5], [1, 6, 8], [0, 1], [], [None, [1]], ["1"], [True]]:
            before = copy.deepcopy(thing)
            could.are_moments(WORLD, ORDER, thing)
            could.is_ring(WORLD, (1, 2, 3), thing)
            bounds.is_chain(WORLD, ORDER, 2, "most", 1, thing)
            bounds.is_chain(WORLD, ORDER, 2, "most", thing, thing)
            self.assertEqual(thing, before)

    def test_lists_that_are_handed_in_are_not_kept(self):
        ends, places, told = [4, 5, 5], [1, 6, 8], could.ring((2, ((9, 9), (1, 1))), (0, 1))
        for expected in (True, False):
            self.assertIs(could.are_moments(WORLD, ORDER, ends), expected)
            self.assertIs(bounds.is_chain(WORLD, ORDER, 2, "most", 1, places), expected)
            self.assertIs(could.is_ring((2, ((9, 9), (1, 1))), (0, 1), told), expected)
            for thing in (ends, places, told):
                thing.append(0)

    def test_refused_lists_stand_as_they_were(self):
        for function, given in INTERFACE:
            for name in given:
                thing = [[2, [3]], {"most": [1]}]
                try:
                    function(**{**given, name: thing})
                except ValueError:
                    pass
                self.assertEqual(thing, [[2, [3]], {"most": [1]}])


if __name__ == "__main__":
    unittest.main()
