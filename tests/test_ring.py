"""Points [1] and [6]: the ring of rules that bars an order, and what is a ring."""

import itertools
import unittest

from benchends.could import could, is_ring, ring
from benchends.rules import rules
from helper import (
    LARGE_WORLDS, NO_NUMBERS, THINGS_OF_OTHER_KINDS, WORLD, barred_orders, counted_orders, numbers, orders_by_playing,
)

# Work 0 takes 9, work 1 takes 1: work 0 can not have ended first.
BARRED = (2, ((9, 9), (1, 1)))


def goes_round(told, places):
    """Whether places lead, rule by rule, from an event back to it, and come to less than 0."""
    event = told[places[0]][1]
    left = 0
    for place in places:
        one, other, most = told[place]
        if other != event:
            return False
        event = one
        left += most
    return event == told[places[0]][1] and left < 0


def changed_lists(places, many):
    """All lists with one place exchanged, put in or left out."""
    for at in range(len(places) + 1):
        yield places[:at] + places[at + 1:]
        for place in range(many):
            yield places[:at] + [place] + places[at + 1:]
            yield places[:at] + [place] + places[at:]


def long_orders():
    """Orders of many works, which can have been or not, each with its world."""
    step = numbers(13)
    for world in LARGE_WORLDS:
        for again in range(6):
            order = ()
            while len(order) < len(world[1]):
                runs = [work for work in range(min(len(world[1]), world[0] + len(order))) if work not in order]
                order += (runs[next(step) % len(runs)],)
                yield world, order


class RingTest(unittest.TestCase):
    def assert_ring(self, world, order):
        told = ring(world, order)
        self.assertIs(type(told), list)
        self.assertEqual({type(place) for place in told}, {int})
        self.assertTrue(all(0 <= place < len(rules(world, order)) for place in told), (world, order, told))
        self.assertTrue(goes_round(rules(world, order), told), (world, order, told))
        self.assertIs(is_ring(world, order, told), True)

    def test_there_is_a_ring_where_an_order_can_not_have_been(self):
        for world, order in barred_orders():
            self.assert_ring(world, order)

    def test_there_is_none_where_it_can(self):
        for world, order, plays in counted_orders():
            self.assertIsNone(ring(world, order), (world, order))

    def test_orders_of_many_works(self):
        found = {True: 0, False: 0}
        for world, order in long_orders():
            can_have_been = could(world, order)
            found[can_have_been] += 1
            if can_have_been:
                self.assertIsNone(ring(world, order))
            else:
                self.assert_ring(world, order)
        self.assertGreater(min(found.values()), 100)

    def test_no_end(self):
        self.assertIsNone(ring(WORLD, ()))
        self.assertIs(is_ring(WORLD, (), [0]), False)


class IsRingTest(unittest.TestCase):
    def assert_told(self, world, order, expected, things):
        for thing in things:
            with self.subTest(world=world, order=order, thing=thing):
                self.assertIs(is_ring(world, order, thing), expected)

    def test_to_the_letter(self):
        # (1, 0, 9), (0, 1, -9), (0, 1, 0), (2, 0, 1), (0, 2, -1), (1, 2, 0)
        self.assert_told(BARRED, (0, 1), True, [[1, 3, 5], [3, 5, 1], [5, 1, 3]])
        self.assert_told(BARRED, (0, 1), False, [
            [5, 3, 1], [1, 5, 3], [1, 3], [1, 5], [3, 5], [1], [3], [5], [0, 1], [1, 0], [3, 4], [2, 3, 5], [1, 3, 4],
        ])

    def test_what_comes_to_0_is_none_and_what_comes_to_less_is_one(self):
        # (1, 0, 5), (0, 1, -5), (0, 1, 0), (2, 0, 5), (0, 2, -5), (1, 2, 0)
        self.assert_told((2, ((5, 5), (5, 5))), (0, 1), False, [[1, 3, 5], [0, 1], [1, 0], [3, 4]])
        self.assert_told((2, ((6, 6), (5, 5))), (0, 1), True, [[1, 3, 5]])

    def test_the_empty_list(self):
        for world, order in [(WORLD, ()), (WORLD, (1, 2)), (BARRED, (0, 1)), (BARRED, (0,))]:
            self.assert_told(world, order, False, [[]])

    def test_a_ring_that_is_turned_or_gone_through_twice_is_one(self):
        for world, order in barred_orders():
            told = ring(world, order)
            for at in range(len(told)):
                turned = told[at:] + told[:at]
                self.assertIs(is_ring(world, order, turned), True, (world, order, turned))
                self.assertIs(is_ring(world, order, turned + turned), True, (world, order, turned))
            self.assertIs(is_ring(world, order, told * 50), True, (world, order, told))

    def test_one_place_exchanged_put_in_or_left_out(self):
        found = {True: 0, False: 0}
        for number, (world, order) in enumerate(barred_orders()):
            if number % 10 == 0:
                told = rules(world, order)
                for places in changed_lists(ring(world, order), len(told)):
                    expected = len(places) > 0 and goes_round(told, places)
                    found[expected] += 1
                    self.assertIs(is_ring(world, order, places), expected, (world, order, places))
        self.assertGreater(min(found.values()), 100)

    def test_all_short_lists(self):
        for world, order in [(BARRED, (0,)), (BARRED, (0, 1)), (BARRED, (1, 0)), (WORLD, (1, 0)), (WORLD, (0,))]:
            told = rules(world, order)
            for many in range(1, 5):
                for places in itertools.product(range(len(told)), repeat=many):
                    self.assertIs(is_ring(world, order, list(places)), goes_round(told, places), (order, places))

    def test_no_list_is_a_ring_where_an_order_can_have_been(self):
        for world, order in [(WORLD, order) for order in orders_by_playing(2, 4) if could(WORLD, order)]:
            for many in range(1, 4):
                for places in itertools.product(range(len(rules(world, order))), repeat=many):
                    self.assertIs(is_ring(world, order, list(places)), False, (order, places))

    def test_places_below_0_and_beyond_the_rules(self):
        many = len(rules(BARRED, (0, 1)))
        # From behind these would be the places 1, 3 and 5.
        self.assert_told(BARRED, (0, 1), False, [[1 - many, 3, 5], [1, 3 - many, 5], [1, 3, 5 - many], [-5, -3, -1]])
        for place in (-1, many, many + 1, 10 ** 400, -10 ** 400):
            for at in range(3):
                good = [1, 3, 5]
                good[at] = place
                self.assert_told(BARRED, (0, 1), False, [good, good[:at] + good[at + 1:] + [place], [place]])
        self.assert_told(BARRED, (0, 1), False, [[1, 3, 5, -1], [1, 3, 5, many], [-1, 1, 3, 5]])

    def test_true_and_false_are_no_places(self):
        self.assert_told(BARRED, (0, 1), False, [[True, 3, 5], [3, 5, True], [1, 3, 5, True, 3, 5], [False], [True]])

    def test_false_in_the_place_of_0(self):
        # (1, 0, 1), (0, 1, -1), (0, 1, 0), (2, 0, 9), (0, 2, -9), (1, 2, 0), (2, 1, 1): work 2 runs
        world = (2, ((1, 1), (9, 9), (1, 1)))
        self.assert_told(world, (0, 1), True, [[0, 6, 4], [4, 0, 6]])
        self.assert_told(world, (0, 1), False, [[False, 6, 4], [4, False, 6]])

    def test_things_of_other_kinds(self):
        others = [thing for thing in THINGS_OF_OTHER_KINDS if not isinstance(thing, list)]
        things = others + [(), (1, 3, 5), {1: True, 3: True, 5: True}, {1, 3, 5}, "135", range(1, 6, 2), [[1, 3, 5]]]
        self.assert_told(BARRED, (0, 1), False, things)
        self.assert_told(WORLD, (), False, things)

    def test_things_of_other_kinds_within_the_list(self):
        for at in range(3):
            for thing in NO_NUMBERS:
                good = [1, 3, 5]
                good[at] = thing
                self.assert_told(BARRED, (0, 1), False, [good, [1, 3, 5] + [thing], [thing]])


if __name__ == "__main__":
    unittest.main()
