"""Points [1], [7] and [8]: which lengths a work that ended may have had, and what shows it."""

import itertools
import unittest

from benchends.bounds import chain, is_chain, length, shown
from benchends.could import are_moments
from benchends.errors import Never, NoSide, NoWork
from benchends.orders import played
from benchends.rules import rules
from helper import (
    LARGE_WORLDS, NO_NUMBERS, ODD_THINGS, THINGS_OF_OTHER_KINDS, WORLD, barred_orders, counted_orders, length_by,
    some_lengths,
)

SIDES = ("least", "most")

# (1, 0, 4), (0, 1, -4), (0, 1, 0), (2, 1, 9), (1, 2, -1), (1, 2, 0), (3, 0, 5), (0, 3, -3), (2, 3, 0), (3, 2, 6)
ORDER = (1, 2, 0)

NO_WORKS = NO_NUMBERS + [(0,), (1, 2, 0), [0], 3, 4, -1, 10 ** 400]

NO_SIDES = [
    None, True, False, 0, 1, -1, "", "Most", "MOST", "most ", " least", "leas", "leastmost", "mos", b"most", (),
    ("most",), ("least", "most"), ["most"], {"most": True}, {"least"}, object(), str,
] + ODD_THINGS


def ended_works():
    """All works that ended in orders of small worlds that can have been, each with world, order and plays."""
    for world, order, plays in counted_orders():
        for work in order:
            yield world, order, work, plays


def leads(world, order, work, side, number, places):
    """Whether places lead, rule by rule, between the work's begin and its end, and come to no more than is asked."""
    told = rules(world, order)
    begin, end = max(0, work - world[0] + 1), order.index(work) + 1
    event, goal = (begin, end) if side == "most" else (end, begin)
    left = number if side == "most" else -number
    for place in places:
        one, other, most = told[place]
        if other != event:
            return False
        event = one
        left -= most
    return event == goal and left >= 0


class LengthTest(unittest.TestCase):
    def test_the_least_and_the_greatest_of_all_plays(self):
        for world, order, work, plays in ended_works():
            found = [some[work] for some, ends in plays]
            self.assertEqual(length(world, order, work), (min(found), max(found)), (world, order, work))

    def test_each_length_between_them_is_played(self):
        for world, order, work, plays in ended_works():
            least, greatest = length(world, order, work)
            self.assertEqual({some[work] for some, ends in plays}, set(range(least, greatest + 1)))

    def test_to_the_letter(self):
        self.assertEqual([length(WORLD, (1, 2, 0), work) for work in (0, 1, 2)], [(5, 5), (4, 4), (1, 1)])
        self.assertEqual(length(WORLD, (0,), 0), (3, 4))
        self.assertEqual(length(WORLD, (0, 1, 2, 3), 2), (1, 7))
        self.assertEqual(length(WORLD, (0, 1, 3, 2), 2), (2, 9))
        # Work 2 runs, is at most 3 long, and began with the end of work 0.
        self.assertEqual(length((2, ((1, 9), (10, 10), (1, 3))), (0, 1), 0), (7, 9))

    def test_bounds_stand_where_there_is_one_bench(self):
        world = (1, ((1, 99), (5, 5), (2, 3)))
        self.assertEqual([length(world, (0, 1, 2), work) for work in range(3)], [(1, 99), (5, 5), (2, 3)])

    def test_the_answer_is_a_tuple_of_two_whole_numbers(self):
        told = length(WORLD, (1,), 1)
        self.assertIs(type(told), tuple)
        self.assertEqual([type(part) for part in told], [int, int])

    def test_lengths_of_many_works_that_are_played_lie_within(self):
        for world in LARGE_WORLDS:
            for some in some_lengths(world, 14):
                order = played(world, some)[0]
                for work in order:
                    least, greatest = length(world, order, work)
                    self.assertTrue(world[1][work][0] <= least <= some[work] <= greatest <= world[1][work][1])


class ChainTest(unittest.TestCase):
    def assert_chain(self, world, order, work, side):
        told = chain(world, order, work, side)
        number = length(world, order, work)[SIDES.index(side)]
        beyond = number - 1 if side == "most" else number + 1
        self.assertIs(type(told), list)
        self.assertEqual({type(place) for place in told}, {int})
        self.assertTrue(leads(world, order, work, side, number, told), (world, order, work, side, told))
        self.assertIs(is_chain(world, order, work, side, number, told), True, (world, order, work, side, told))
        self.assertIs(is_chain(world, order, work, side, beyond, told), False, (world, order, work, side, told))

    def test_the_told_chain_is_one_for_just_this_number(self):
        for world, order, work, plays in ended_works():
            for side in SIDES:
                self.assert_chain(world, order, work, side)

    def test_orders_of_many_works(self):
        for world in LARGE_WORLDS:
            order = played(world, some_lengths(world, 15)[0])[0]
            for many in range(len(order) + 1):
                for work in order[:many]:
                    for side in SIDES:
                        self.assert_chain(world, order[:many], work, side)


class IsChainTest(unittest.TestCase):
    def assert_told(self, expected, work, side, number, things):
        for thing in things:
            with self.subTest(work=work, side=side, number=number, thing=thing):
                self.assertIs(is_chain(WORLD, ORDER, work, side, number, thing), expected)

    def test_to_the_letter(self):
        # By 4 for work 1 and 5 for work 0 work 2 is at most 1 long: from event 1 to 0, to 3, to 2.
        self.assert_told(True, 2, "most", 1, [[1, 6, 8]])
        self.assert_told(False, 2, "most", 0, [[1, 6, 8]])
        self.assert_told(True, 2, "most", 2, [[1, 6, 8]])
        self.assert_told(True, 2, "most", 9, [[3], [1, 6, 8], [1, 0, 3]])
        self.assert_told(False, 2, "most", 8, [[3], [1, 0, 3]])
        # Work 0 is at least 5 long: from event 3 to 2, to 1, to 0.
        self.assert_told(True, 0, "least", 5, [[8, 4, 1]])
        self.assert_told(False, 0, "least", 6, [[8, 4, 1]])
        self.assert_told(True, 0, "least", 4, [[8, 4, 1], [8, 5, 1]])
        self.assert_told(False, 0, "least", 5, [[8, 5, 1], [7]])
        self.assert_told(True, 0, "least", 3, [[7]])
        self.assert_told(True, 0, "least", 0, [[8, 5, 2], [8, 4, 1]])
        self.assert_told(False, 0, "least", 1, [[8, 5, 2]])

    def test_a_chain_for_one_side_or_work_is_none_for_another(self):
        self.assert_told(False, 2, "least", 0, [[1, 6, 8], [3]])
        self.assert_told(False, 0, "most", 99, [[8, 4, 1], [7], [0], [3]])
        self.assert_told(False, 0, "least", 0, [[6], [1], [4]])

    def test_all_short_lists(self):
        many = len(rules(WORLD, ORDER))
        for work, side, number in itertools.product(ORDER, SIDES, (0, 1, 4, 9)):
            for size in range(1, 4):
                for places in itertools.product(range(many), repeat=size):
                    expected = leads(WORLD, ORDER, work, side, number, places)
                    told = is_chain(WORLD, ORDER, work, side, number, list(places))
                    self.assertIs(told, expected, (work, side, number, places))

    def test_what_is_a_chain_is_right_of_all_plays(self):
        for number, (world, order, work, plays) in enumerate(ended_works()):
            if number % 150 == 0:
                found = [some[work] for some, ends in plays]
                for places in itertools.product(range(len(rules(world, order))), repeat=2):
                    for at in range(max(found) + 2):
                        if is_chain(world, order, work, "most", at, list(places)):
                            self.assertLessEqual(max(found), at)
                        if is_chain(world, order, work, "least", at, list(places)):
                            self.assertGreaterEqual(min(found), at)

    def test_told_chains_with_one_place_exchanged_put_in_or_left_out(self):
        for number, (world, order, work, plays) in enumerate(ended_works()):
            if number % 20 == 0:
                for side in SIDES:
                    self.assert_changed(world, order, work, side)

    def assert_changed(self, world, order, work, side):
        told = chain(world, order, work, side)
        number = length(world, order, work)[SIDES.index(side)]
        for at in range(len(told) + 1):
            changed = [told[:at] + told[at + 1:]]
            for place in range(len(rules(world, order))):
                changed += [told[:at] + [place] + told[at + 1:], told[:at] + [place] + told[at:]]
            for places in changed:
                expected = leads(world, order, work, side, number, places)
                self.assertIs(is_chain(world, order, work, side, number, places), expected, (world, order, places))

    def test_a_chain_may_go_through_a_place_twice(self):
        self.assert_told(True, 1, "most", 4, [[0], [0, 1, 0], [0, 1, 0, 1, 0]])
        self.assert_told(False, 1, "most", 4, [[0, 0], [0, 1], [0, 1, 0, 1]])

    def test_a_number_from_0_to_9999(self):
        self.assert_told(True, 2, "most", 9999, [[3], [1, 6, 8]])
        self.assert_told(False, 2, "most", 10000, [[3], [1, 6, 8]])
        self.assert_told(False, 2, "most", 10 ** 400, [[3], [1, 6, 8]])
        self.assert_told(True, 0, "least", 0, [[7], [8, 4, 1]])
        self.assert_told(False, 0, "least", -1, [[7], [8, 4, 1]])
        self.assert_told(False, 0, "least", -10 ** 400, [[7], [8, 4, 1]])
        self.assert_told(False, 2, "most", -1, [[3], [1, 6, 8]])
        self.assert_told(False, 0, "least", 9999, [[7], [8, 4, 1]])

    def test_what_is_no_number(self):
        for number in NO_NUMBERS:
            self.assert_told(False, 2, "most", number, [[3], [1, 6, 8], None])
            self.assert_told(False, 0, "least", number, [[7], [8, 4, 1], None])

    def test_the_empty_list(self):
        for work, side, number in itertools.product(ORDER, SIDES, (0, 1, 9, 9999)):
            self.assert_told(False, work, side, number, [[]])

    def test_lists_that_do_not_go_from_the_one_event_to_the_other(self):
        # They begin elsewhere, end elsewhere, or are torn.
        self.assert_told(False, 2, "most", 99, [
            [0], [6], [0, 3], [6, 8], [1, 6], [1], [3, 8], [3, 4], [1, 8], [8, 6, 1],
        ])
        self.assert_told(False, 0, "least", 0, [
            [8], [8, 4], [8, 5], [4, 1], [1], [8, 1], [1, 4, 8], [7, 6], [8, 4, 4, 1],
        ])

    def test_places_below_0_and_beyond_the_rules(self):
        many = len(rules(WORLD, ORDER))
        self.assert_told(False, 2, "most", 99, [[3 - many], [1 - many, 6, 8], [1, 6 - many, 8], [1, 6, 8 - many]])
        for place in (-1, many, many + 1, 10 ** 400, -10 ** 400):
            self.assert_told(False, 2, "most", 99, [[place], [3, place], [place, 3], [1, place, 8], [1, 6, place]])

    def test_true_and_false_are_no_places(self):
        self.assert_told(False, 2, "most", 99, [[True, 6, 8], [True], [False], [1, False, 3], [True, 0, 3]])
        self.assert_told(True, 1, "most", 99, [[0], [0, 1, 0]])
        self.assert_told(False, 1, "most", 99, [[False], [0, True, 0], [False, 1, 0], [0, 1, False]])

    def test_things_of_other_kinds(self):
        others = [thing for thing in THINGS_OF_OTHER_KINDS if not isinstance(thing, list)]
        things = others + [(), (3,), (1, 6, 8), {3: True}, {3}, "3", "168", range(3, 4), [[3]], [[1, 6, 8]]]
        self.assert_told(False, 2, "most", 99, things)
        self.assert_told(False, 0, "least", 0, things + [(7,), (8, 4, 1)])

    def test_things_of_other_kinds_within_the_list(self):
        for at in range(3):
            for thing in NO_NUMBERS:
                good = [1, 6, 8]
                good[at] = thing
                self.assert_told(False, 2, "most", 99, [good, [3, thing], [thing, 3], [thing]])


class ShownTest(unittest.TestCase):
    def assert_shown(self, world, order, work, side):
        told = shown(world, order, work, side)
        number = length(world, order, work)[SIDES.index(side)]
        self.assertIs(type(told), list)
        self.assertIs(are_moments(world, order, told), True, (world, order, work, side, told))
        self.assertEqual(length_by(world, order, told, work), number, (world, order, work, side, told))
        return told

    def test_moments_by_which_the_length_is_just_this(self):
        for world, order, work, plays in ended_works():
            for side in SIDES:
                told = self.assert_shown(world, order, work, side)
                self.assertIn(tuple(told), [ends for some, ends in plays], (world, order, work, side))

    def test_orders_of_many_works(self):
        for world in LARGE_WORLDS:
            order = played(world, some_lengths(world, 16)[0])[0]
            for many in range(len(order) + 1):
                for work in order[:many]:
                    for side in SIDES:
                        self.assert_shown(world, order[:many], work, side)

    def test_to_the_letter(self):
        world = (1, ((3, 5),))
        self.assertEqual(shown(world, (0,), 0, "least"), [3])
        self.assertEqual(shown(world, (0,), 0, "most"), [5])


def calls(world, order, work):
    """The four functions, with a side and more that are in order."""
    return [
        lambda: length(world, order, work),
        lambda: chain(world, order, work, "most"),
        lambda: is_chain(world, order, work, "least", 1, [0]),
        lambda: shown(world, order, work, "least"),
    ]


def calls_by_side(world, order, work, side):
    return [
        lambda: chain(world, order, work, side),
        lambda: is_chain(world, order, work, side, 1, [0]),
        lambda: is_chain(world, order, work, side, None, None),
        lambda: shown(world, order, work, side),
    ]


class RefusalTest(unittest.TestCase):
    def assert_refused(self, error, functions):
        for function in functions:
            with self.assertRaises(error):
                function()

    def test_no_work(self):
        for work in NO_WORKS:
            with self.subTest(work=work):
                self.assert_refused(NoWork, calls(WORLD, (1, 2, 0), work))

    def test_a_work_that_runs_or_waits_is_none_of_the_order(self):
        for order in [(), (0,), (1,), (0, 2), (1, 2)]:
            for work in range(4):
                if work not in order:
                    with self.subTest(order=order, work=work):
                        self.assert_refused(NoWork, calls(WORLD, order, work))

    def test_never(self):
        for world, order in barred_orders():
            for work in order:
                self.assert_refused(Never, calls(world, order, work))

    def test_no_side(self):
        for side in NO_SIDES:
            with self.subTest(side=side):
                self.assert_refused(NoSide, calls_by_side(WORLD, (1, 2, 0), 2, side))

    def test_no_work_goes_ahead_of_never(self):
        # Neither can work 0 have ended first, nor is there a work 2.
        world = (2, ((9, 9), (1, 1)))
        self.assert_refused(Never, calls(world, (0,), 0))
        for order in [(0,), (0, 1)]:
            for work in NO_NUMBERS + [2, 3, -1]:
                with self.subTest(order=order, work=work):
                    self.assert_refused(NoWork, calls(world, order, work))
                    self.assert_refused(NoWork, calls_by_side(world, order, work, "Most"))

    def test_no_work_and_never_go_ahead_of_no_side(self):
        for side in NO_SIDES:
            with self.subTest(side=side):
                self.assert_refused(Never, calls_by_side((2, ((9, 9), (1, 1))), (0, 1), 1, side))
                self.assert_refused(NoWork, calls_by_side(WORLD, (1, 2, 0), 3, side))
                self.assert_refused(NoWork, calls_by_side(WORLD, (1, 2, 0), True, side))


if __name__ == "__main__":
    unittest.main()
