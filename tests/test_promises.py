"""Point [1], of all functions alike: refusals and which comes first, what is told anew, what is left as it was."""

import copy
import inspect
import itertools
import unittest

from benchends import (
    benching, bounds, chancing, could, orders, pictures, rowing, rules, tightening, watches, worldtexts,
)
from benchends.errors import (
    Never, NoLengths, NoNumber, NoOrder, NoRow, NoSide, NoText, NoWork, NoWorld, TooMany,
)
from helper import NO_LENGTHS, NO_ORDERS, NO_TEXTS, NO_WORLDS, WORLD

ORDER = (1, 2, 0)
LENGTHS = (3, 4, 5, 6)

# The interface: each function with its arguments, by their names, such that it answers.
INTERFACE = [
    (rules.rules, {"world": WORLD, "order": ORDER}),
    (could.could, {"world": WORLD, "order": ORDER}),
    (could.moments, {"world": WORLD, "order": ORDER}),
    (could.are_moments, {"world": WORLD, "order": ORDER, "thing": [4, 5, 5]}),
    (could.ring, {"world": WORLD, "order": ORDER}),
    (could.ring, {"world": WORLD, "order": (1, 2, 3)}),
    (could.is_ring, {"world": WORLD, "order": (1, 2, 3), "thing": [0, 1]}),
    (could.lengths, {"world": WORLD, "order": ORDER}),
    (bounds.length, {"world": WORLD, "order": ORDER, "work": 2}),
    (bounds.chain, {"world": WORLD, "order": ORDER, "work": 2, "side": "most"}),
    (bounds.chain, {"world": WORLD, "order": ORDER, "work": 0, "side": "least"}),
    (bounds.is_chain, {
        "world": WORLD, "order": ORDER, "work": 2, "side": "most", "number": 1, "thing": [1, 6, 8],
    }),
    (bounds.shown, {"world": WORLD, "order": ORDER, "work": 2, "side": "most"}),
    (bounds.shown, {"world": WORLD, "order": ORDER, "work": 0, "side": "least"}),
    (orders.may_end, {"world": WORLD, "order": (1,)}),
    (orders.all_orders, {"world": WORLD}),
    (orders.played, {"world": WORLD, "lengths": LENGTHS}),
    (orders.benches, {"world": WORLD, "lengths": LENGTHS}),
    (rowing.finish, {"world": WORLD, "lengths": LENGTHS}),
    (rowing.begin_moments, {"world": WORLD, "lengths": LENGTHS}),
    (rowing.short_ones_first, {"world": WORLD, "lengths": LENGTHS}),
    (rowing.best_row, {"world": WORLD, "lengths": LENGTHS}),
    (rowing.finish_in, {"world": WORLD, "lengths": LENGTHS, "row": (3, 2, 1, 0)}),
    (rowing.waits_in, {"world": WORLD, "lengths": LENGTHS, "row": (3, 2, 1, 0)}),
    (benching.with_benches, {"world": WORLD, "many": 3}),
    (benching.fewest_benches, {"world": WORLD, "lengths": LENGTHS, "by": 9}),
    (benching.busy, {"world": WORLD, "lengths": LENGTHS}),
    (benching.idle, {"world": WORLD, "lengths": LENGTHS}),
    (benching.at_work, {"world": WORLD, "lengths": LENGTHS, "moment": 4}),
    (worldtexts.world_text, {"world": WORLD}),
    (worldtexts.read_world, {"text": "2: 3-5 4 1-9"}),
    (worldtexts.order_text, {"world": WORLD, "order": ORDER}),
    (worldtexts.read_order, {"world": WORLD, "text": "1 2 0"}),
    (tightening.tighter, {"world": WORLD, "order": ORDER}),
    (tightening.moment_bounds, {"world": WORLD, "order": ORDER}),
    (tightening.is_settled, {"world": WORLD, "order": ORDER}),
    (tightening.still, {"world": WORLD, "order": (0,)}),
    (tightening.gap_bounds, {"world": WORLD, "order": ORDER, "one": 3, "other": 1}),
    (chancing.how_many_lengths, {"world": WORLD}),
    (chancing.chances, {"world": WORLD}),
    (chancing.lengths_for, {"world": WORLD, "order": (0, 1)}),
    (chancing.likeliest_next, {"world": WORLD, "order": (0, 1)}),
    (pictures.picture, {"world": WORLD, "lengths": LENGTHS}),
    (pictures.read_picture, {"text": "aaaccccc..\nbbbbdddddd"}),
]

NAMES = {
    rules: "rules",
    could: "could moments are_moments ring is_ring lengths",
    bounds: "length chain is_chain shown",
    orders: "may_end all_orders played benches",
    rowing: "finish begin_moments short_ones_first best_row finish_in waits_in",
    benching: "with_benches fewest_benches busy idle at_work",
    worldtexts: "world_text read_world order_text read_order",
    tightening: "tighter moment_bounds is_settled still gap_bounds",
    chancing: "how_many_lengths chances lengths_for likeliest_next",
    pictures: "picture read_picture",
}

# Changes of the arguments for which a function refuses, such that those of several refusals can be made together.
NO_WORLD = (NoWorld, {"world": (5, ((1, 1),))})
NO_ORDER = (NoOrder, {"order": (0, 0)})
NO_LENGTH = (NoLengths, {"lengths": (0, 0)})
NEVER = (Never, {"world": (2, ((9, 9), (1, 1))), "order": (0,)})
NEVER_OF_WORK = (Never, {"world": (2, ((9, 9), (1, 1))), "order": (0,), "work": 0})
NO_WORK = (NoWork, {"work": 3})
NO_SIDE = (NoSide, {"side": "both"})
TOO_MANY_WORKS = (TooMany, {"world": (2, ((1, 1),) * 7)})
TOO_MANY_ROWS = (TooMany, {"world": (2, ((1, 1),) * 7), "lengths": (1,) * 7})
TOO_MANY_LENGTHS = (TooMany, {"world": (2, ((1, 99),) * 3)})
NO_TEXT = (NoText, {"text": "0 0"})

# The refusals of each function, in the order in which they are named.
REFUSALS = {
    rules.rules: [NO_WORLD, NO_ORDER],
    could.could: [NO_WORLD, NO_ORDER],
    could.moments: [NO_WORLD, NO_ORDER, NEVER],
    could.are_moments: [NO_WORLD, NO_ORDER],
    could.ring: [NO_WORLD, NO_ORDER],
    could.is_ring: [NO_WORLD, NO_ORDER],
    could.lengths: [NO_WORLD, NO_ORDER, NEVER],
    bounds.length: [NO_WORLD, NO_ORDER, NO_WORK, NEVER_OF_WORK],
    bounds.chain: [NO_WORLD, NO_ORDER, NO_WORK, NEVER_OF_WORK, NO_SIDE],
    bounds.is_chain: [NO_WORLD, NO_ORDER, NO_WORK, NEVER_OF_WORK, NO_SIDE],
    bounds.shown: [NO_WORLD, NO_ORDER, NO_WORK, NEVER_OF_WORK, NO_SIDE],
    orders.may_end: [NO_WORLD, NO_ORDER, NEVER],
    orders.all_orders: [NO_WORLD, TOO_MANY_WORKS],
    orders.played: [NO_WORLD, NO_LENGTH],
    orders.benches: [NO_WORLD, NO_LENGTH],
    rowing.finish: [NO_WORLD, NO_LENGTH],
    rowing.begin_moments: [NO_WORLD, NO_LENGTH],
    rowing.short_ones_first: [NO_WORLD, NO_LENGTH],
    rowing.best_row: [NO_WORLD, NO_LENGTH, TOO_MANY_ROWS],
    rowing.finish_in: [NO_WORLD, NO_LENGTH, (NoRow, {"row": (0, 1, 2, 2)})],
    rowing.waits_in: [NO_WORLD, NO_LENGTH, (NoRow, {"row": (0, 1, 2, 2)})],
    benching.with_benches: [NO_WORLD, (NoNumber, {"many": 0})],
    benching.fewest_benches: [NO_WORLD, NO_LENGTH, (NoNumber, {"by": -1})],
    benching.busy: [NO_WORLD, NO_LENGTH],
    benching.idle: [NO_WORLD, NO_LENGTH],
    benching.at_work: [NO_WORLD, NO_LENGTH, (NoNumber, {"moment": -1})],
    worldtexts.world_text: [NO_WORLD],
    worldtexts.read_world: [NO_TEXT],
    worldtexts.order_text: [NO_WORLD, NO_ORDER],
    worldtexts.read_order: [NO_WORLD, NO_TEXT],
    tightening.tighter: [NO_WORLD, NO_ORDER, NEVER],
    tightening.moment_bounds: [NO_WORLD, NO_ORDER, NEVER],
    tightening.is_settled: [NO_WORLD, NO_ORDER, NEVER],
    tightening.still: [NO_WORLD, NO_ORDER, NEVER],
    tightening.gap_bounds: [NO_WORLD, NO_ORDER, NEVER, (NoNumber, {"one": 9, "other": 9})],
    chancing.how_many_lengths: [NO_WORLD],
    chancing.chances: [NO_WORLD, TOO_MANY_LENGTHS],
    chancing.lengths_for: [NO_WORLD, NO_ORDER, TOO_MANY_LENGTHS],
    chancing.likeliest_next: [NO_WORLD, NO_ORDER, TOO_MANY_LENGTHS],
    pictures.picture: [NO_WORLD, NO_LENGTH],
    pictures.read_picture: [NO_TEXT],
}

WITH_WORLD = [(function, given) for function, given in INTERFACE if "world" in given]
WITH_TEXT = [(function, given) for function, given in INTERFACE if "text" in given]
WITH_ORDER = [(function, given) for function, given in INTERFACE if "order" in given]
WITH_LENGTHS = [(function, given) for function, given in INTERFACE if "lengths" in given]


def lists_within(thing):
    """The thing, where it is a list, and all lists within it."""
    found = [thing] if isinstance(thing, list) else []
    if isinstance(thing, (list, tuple)):
        for part in thing:
            found += lists_within(part)
    return found


class InterfaceTest(unittest.TestCase):
    def test_arguments_bear_their_names_and_stand_in_their_order(self):
        for function, given in INTERFACE:
            with self.subTest(function=function):
                self.assertEqual(list(inspect.signature(function).parameters), list(given))
                self.assertEqual(function(*given.values()), function(**given))

    def test_each_function_is_there_and_looked_at_here(self):
        named = [getattr(module, name) for module, names in NAMES.items() for name in names.split()]
        self.assertEqual({function for function, given in INTERFACE}, set(named))
        self.assertEqual(set(REFUSALS), set(named))
        for method in ("order", "runs", "may_end", "end", "undo"):
            self.assertTrue(callable(getattr(watches.Watch, method)))


class RefusalTest(unittest.TestCase):
    def test_of_several_refusals_that_fit_the_one_that_is_named_first(self):
        for function, given in INTERFACE:
            known = REFUSALS[function]
            for many in range(1, len(known) + 1):
                for faults in itertools.combinations(known, many):
                    changed = dict(given)
                    for refusal, changes in reversed(faults):
                        changed.update((name, thing) for name, thing in changes.items() if name in given)
                    with self.subTest(function=function, changed=changed):
                        with self.assertRaises(faults[0][0]) as caught:
                            function(**changed)
                        self.assertIs(type(caught.exception), faults[0][0])

    def test_no_text(self):
        for function, given in WITH_TEXT:
            for thing in NO_TEXTS + ["no text", "0 0", " ", "\n"]:
                with self.subTest(function=function, thing=thing):
                    with self.assertRaises(NoText):
                        function(**{**given, "text": thing})

    def test_no_world_goes_ahead_of_all_others(self):
        for function, given in WITH_WORLD:
            others = dict.fromkeys(given)
            for world in NO_WORLDS:
                for rest in (given, others):
                    with self.subTest(function=function, world=world, rest=rest):
                        with self.assertRaises(NoWorld):
                            function(**{**rest, "world": world})

    def test_no_order_goes_ahead_of_all_others_but_no_world(self):
        for function, given in WITH_ORDER:
            others = {**dict.fromkeys(given), "world": WORLD}
            for order in NO_ORDERS:
                for rest in (given, others):
                    with self.subTest(function=function, order=order, rest=rest):
                        with self.assertRaises(NoOrder):
                            function(**{**rest, "order": order})

    def test_no_lengths_go_ahead_of_all_others_but_no_world(self):
        for function, given in WITH_LENGTHS:
            others = {**dict.fromkeys(given), "world": WORLD}
            for lengths in NO_LENGTHS:
                for rest in (given, others):
                    with self.subTest(function=function, lengths=lengths, rest=rest):
                        with self.assertRaises(NoLengths):
                            function(**{**rest, "lengths": lengths})

    def test_no_order_goes_ahead_of_never(self):
        # By these lengths work 0 can not have ended first.
        world = (2, ((9, 9), (1, 1)))
        refusing = (
            could.moments, could.lengths, orders.may_end, tightening.tighter, tightening.moment_bounds,
            tightening.is_settled, tightening.still,
        )
        for function in refusing:
            with self.assertRaises(Never):
                function(world, (0,))
            for order in [(0, 0), (0, 2), [0], (0, True), (0, 1, 1)]:
                with self.assertRaises(NoOrder):
                    function(world, order)

    def test_could_and_ring_are_not_refused_where_an_order_can_not_have_been(self):
        world = (2, ((9, 9), (1, 1)))
        self.assertIs(could.could(world, (0, 1)), False)
        self.assertIs(could.are_moments(world, (0, 1), [9, 9]), False)
        self.assertIs(could.is_ring(world, (0, 1), could.ring(world, (0, 1))), True)


class ToldAnewTest(unittest.TestCase):
    def test_told_lists_are_new_ones_each_time(self):
        for function, given in INTERFACE:
            with self.subTest(function=function):
                one, other = function(**given), function(**given)
                self.assertEqual(one, other)
                found = lists_within(one) + lists_within(other)
                self.assertEqual(len({id(part) for part in found}), len(found))

    def test_changing_what_was_told_changes_nothing_that_is_told_later(self):
        expected = [copy.deepcopy(function(**given)) for function, given in INTERFACE]
        for function, given in INTERFACE:
            for part in lists_within(function(**given)):
                part.append(None)
                part[0] = "changed"
            for part in lists_within(function(**given)):
                part.clear()
        self.assertEqual([function(**given) for function, given in INTERFACE], expected)

    def test_equal_things_give_equal_answers(self):
        for function, given in WITH_WORLD:
            with self.subTest(function=function):
                expected = function(**given)
                again = (2, tuple(tuple(list(part)) for part in WORLD[1]))
                self.assertEqual(function(**{**given, "world": again}), expected)

    def test_what_is_refused_changes_nothing(self):
        expected = [function(**given) for function, given in INTERFACE]
        for function, given in INTERFACE:
            for name in given:
                try:
                    function(**{**given, name: None})
                except ValueError:
                    pass
        self.assertEqual([function(**given) for function, given in INTERFACE], expected)


class HandedInTest(unittest.TestCase):
    def test_lists_that_are_handed_in_stand_as_they_were(self):
        for thing in [[4, 5, 5], [1, 6, 8], [0, 1], [], [None, [1]], ["1"], [True]]:
            before = copy.deepcopy(thing)
            could.are_moments(WORLD, ORDER, thing)
            could.is_ring(WORLD, (1, 2, 3), thing)
            bounds.is_chain(WORLD, ORDER, 2, "most", 1, thing)
            bounds.is_chain(WORLD, ORDER, 2, "most", thing, thing)
            self.assertEqual(thing, before)

    def test_lists_that_are_handed_in_are_not_kept(self):
        ends, places, told = [4, 5, 5], [1, 6, 8], could.ring((2, ((9, 9), (1, 1))), (0, 1))
        for expected in (True, False):
            self.assertIs(could.are_moments(WORLD, ORDER, ends), expected)
            self.assertIs(bounds.is_chain(WORLD, ORDER, 2, "most", 1, places), expected)
            self.assertIs(could.is_ring((2, ((9, 9), (1, 1))), (0, 1), told), expected)
            for thing in (ends, places, told):
                thing.append(0)

    def test_refused_lists_stand_as_they_were(self):
        for function, given in INTERFACE:
            for name in given:
                thing = [[2, [3]], {"most": [1]}]
                try:
                    function(**{**given, name: thing})
                except ValueError:
                    pass
                self.assertEqual(thing, [[2, [3]], {"most": [1]}])


if __name__ == "__main__":
    unittest.main()
