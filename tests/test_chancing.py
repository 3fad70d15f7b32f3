"""Points [1], [10] and [16]: all lengths gone through, and the shares of orders."""

import fractions
import math
import unittest

from benchends.chancing import chances, how_many_lengths, lengths_for, likeliest_next
from benchends.errors import NoOrder, NoWorld, TooMany
from benchends.orders import played
from helper import (
    LARGE_WORLDS, NO_ORDERS, NO_WORLDS, SMALL_WORLDS, WORLD, all_lengths, mixed_worlds, orders_by_playing, play,
)

FEW = [world for world in SMALL_WORLDS if len(list(all_lengths(world))) <= 600]
FEW += [world for world in mixed_worlds(12, 8, 30, 1, 91) if len(list(all_lengths(world))) <= 600]

# 600 lengths each.
JUST_ENOUGH = [
    (1, ((1, 8), (25, 99))), (2, ((1, 10), (1, 10), (1, 6))), (3, ((5, 5), (1, 24), (1, 25))),
    (4, ((1, 2), (1, 2), (1, 2), (1, 3), (1, 5), (1, 5), (9, 9), (8, 8), (7, 7), (6, 6))),
]

# The next number beyond 600 that there can be is 602, since 601 is no product of numbers up to 99.
TOO_MANY = [
    (2, ((1, 14), (1, 43))), (1, ((1, 7), (9, 10), (1, 43))), (3, ((1, 11), (1, 55))), (2, ((1, 99), (1, 7))),
    (2, ((1, 99), (1, 99))), (4, ((1, 2),) * 10), (2, ((1, 99),) * 10),
]


def order_by_playing(world, lengths):
    return tuple(work for moment, ended in play(world[0], lengths)[0] for work in ended)


def orders_by_lengths(world):
    """For each tuple of lengths, rising, the order that is played."""
    return {lengths: order_by_playing(world, lengths) for lengths in sorted(all_lengths(world))}


def some_orders(world):
    """Orders of the world, of all kinds; of small worlds all."""
    works = len(world[1])
    if works <= 4:
        return orders_by_playing(world[0], works)
    order = order_by_playing(world, [least for least, greatest in world[1]])
    return [order[:many] for many in range(works + 1)] + [tuple(range(many)) for many in range(works + 1)]


class HowManyLengthsTest(unittest.TestCase):
    def test_against_all_lengths(self):
        for world in SMALL_WORLDS:
            self.assertEqual(how_many_lengths(world), len(list(all_lengths(world))))

    def test_however_great(self):
        for benches in range(1, 5):
            self.assertEqual(how_many_lengths((benches, ((1, 99),) * 10)), 99 ** 10)
            self.assertEqual(how_many_lengths((benches, ((99, 99),) * 10)), 1)
        for world in LARGE_WORLDS + TOO_MANY:
            expected = math.prod(greatest - least + 1 for least, greatest in world[1])
            self.assertEqual(how_many_lengths(world), expected)

    def test_to_the_letter(self):
        self.assertEqual(how_many_lengths(WORLD), 135)
        self.assertEqual(how_many_lengths((1, ((1, 1),))), 1)
        self.assertEqual([how_many_lengths(world) for world in JUST_ENOUGH], [600] * 4)
        self.assertEqual([how_many_lengths(world) for world in TOO_MANY[:3]], [602, 602, 605])
        self.assertIs(type(how_many_lengths(WORLD)), int)

    def test_no_world(self):
        for world in NO_WORLDS:
            with self.assertRaises(NoWorld, msg=world):
                how_many_lengths(world)


class ChancesTest(unittest.TestCase):
    def test_against_a_count(self):
        for world in FEW + JUST_ENOUGH:
            found = list(orders_by_lengths(world).values())
            expected = []
            for order in sorted(set(found)):
                part = fractions.Fraction(found.count(order), len(found))
                expected.append((order, (part.numerator, part.denominator)))
            self.assertEqual(chances(world), expected, world)

    def test_rising_and_in_lowest_terms_and_1_together(self):
        for world in FEW + JUST_ENOUGH:
            told = chances(world)
            self.assertEqual([order for order, share in told], sorted({order for order, share in told}))
            for order, share in told:
                self.assertTrue(0 < share[0] <= share[1])
                self.assertEqual(math.gcd(share[0], share[1]), 1)
            self.assertEqual(sum(fractions.Fraction(share[0], share[1]) for order, share in told), 1)

    def test_to_the_letter(self):
        self.assertEqual(chances((1, ((1, 1),))), [((0,), (1, 1))])
        self.assertEqual(chances((1, ((1, 9), (1, 9)))), [((0, 1), (1, 1))])
        self.assertEqual(chances((2, ((1, 2), (1, 2)))), [((0, 1), (3, 4)), ((1, 0), (1, 4))])
        self.assertEqual(chances((2, ((3, 3), (1, 6)))), [((0, 1), (2, 3)), ((1, 0), (1, 3))])
        self.assertEqual(chances(WORLD), [
            ((0, 1, 2, 3), (1, 3)), ((0, 1, 3, 2), (1, 3)), ((1, 0, 2, 3), (5, 27)), ((1, 0, 3, 2), (4, 27)),
        ])

    def test_the_kinds_of_the_answer(self):
        told = chances((2, ((1, 2), (1, 2))))
        self.assertEqual([type(told)] + [type(part) for part in told], [list, tuple, tuple])
        self.assertEqual([type(told[0][0]), type(told[0][1])], [tuple, tuple])
        self.assertEqual({type(number) for order, share in told for number in order + share}, {int})

    def test_too_many_of_more_than_600_and_none_of_600(self):
        for world in TOO_MANY:
            with self.assertRaises(TooMany, msg=world):
                chances(world)
        for world in JUST_ENOUGH:
            self.assertGreater(len(chances(world)), 0)

    def test_many_works_are_gone_through_where_their_lengths_are_few(self):
        world = (4, ((3, 4),) + ((99, 99),) * 9)
        self.assertEqual(chances(world), [
            (order_by_playing(world, (3,) + (99,) * 9), (1, 1)),
        ])

    def test_no_world(self):
        for world in NO_WORLDS:
            with self.assertRaises(NoWorld, msg=world):
                chances(world)


class LengthsForTest(unittest.TestCase):
    def test_against_a_count(self):
        for world in FEW:
            known = orders_by_lengths(world)
            for order in some_orders(world):
                expected = [lengths for lengths, found in known.items() if found[:len(order)] == order]
                self.assertEqual(lengths_for(world, order), expected, (world, order))

    def test_the_empty_order(self):
        for world in FEW + JUST_ENOUGH:
            self.assertEqual(lengths_for(world, ()), sorted(all_lengths(world)))

    def test_orders_that_are_played_for_none(self):
        # Told in this order they can have ended at one moment, but are played by their numbers.
        self.assertEqual(lengths_for((2, ((4, 4), (4, 4))), (1,)), [])
        self.assertEqual(lengths_for((2, ((4, 4), (4, 4))), (1, 0)), [])
        self.assertEqual(lengths_for((2, ((9, 9), (1, 1))), (0,)), [])

    def test_to_the_letter(self):
        world = (2, ((1, 2), (1, 2)))
        self.assertEqual(lengths_for(world, ()), [(1, 1), (1, 2), (2, 1), (2, 2)])
        self.assertEqual(lengths_for(world, (0,)), [(1, 1), (1, 2), (2, 2)])
        self.assertEqual(lengths_for(world, (0, 1)), [(1, 1), (1, 2), (2, 2)])
        self.assertEqual(lengths_for(world, (1,)), [(2, 1)])
        self.assertEqual(lengths_for(world, (1, 0)), [(2, 1)])

    def test_the_kinds_of_the_answer(self):
        told = lengths_for((2, ((1, 2), (1, 2))), ())
        self.assertEqual([type(told)] + [type(part) for part in told], [list] + [tuple] * 4)
        self.assertEqual({type(length) for part in told for length in part}, {int})


class LikeliestNextTest(unittest.TestCase):
    def test_against_a_count(self):
        shared = 0
        for world in FEW + JUST_ENOUGH:
            known = list(orders_by_lengths(world).values())
            for order in some_orders(world):
                many = len(order)
                later = [found[many] for found in known if found[:many] == order and len(found) > many]
                most = max([later.count(work) for work in later], default=0)
                expected = sorted({work for work in later if later.count(work) == most})
                self.assertEqual(likeliest_next(world, order), (expected, most), (world, order))
                shared += len(expected) > 1
        self.assertGreater(shared, 20)

    def test_several_that_come_next_for_as_many(self):
        world = (2, ((2, 3), (1, 3)))
        self.assertEqual([order for order, share in chances(world)], [(0, 1), (1, 0)])
        self.assertEqual(likeliest_next(world, ()), ([0, 1], 3))
        self.assertEqual(likeliest_next((2, ((2, 2), (1, 2))), ()), ([0, 1], 1))

    def test_to_the_letter(self):
        world = (2, ((1, 2), (1, 2)))
        self.assertEqual(likeliest_next(world, ()), ([0], 3))
        self.assertEqual(likeliest_next(world, (0,)), ([1], 3))
        self.assertEqual(likeliest_next(world, (1,)), ([0], 1))
        self.assertEqual(likeliest_next(WORLD, ()), ([0], 90))
        self.assertEqual(likeliest_next(WORLD, (0, 1)), ([2, 3], 45))

    def test_an_empty_list_and_0_where_none_is(self):
        for world in FEW:
            for lengths in list(all_lengths(world))[:2]:
                self.assertEqual(likeliest_next(world, played(world, lengths)[0]), ([], 0))
        self.assertEqual(likeliest_next((2, ((4, 4), (4, 4))), (1,)), ([], 0))
        self.assertEqual(likeliest_next((2, ((9, 9), (1, 1))), (0,)), ([], 0))
        self.assertEqual(likeliest_next((2, ((9, 9), (1, 1))), (0, 1)), ([], 0))

    def test_the_kinds_of_the_answer(self):
        for order in [(), (0,), (1, 0), (0, 1)]:
            told = likeliest_next((2, ((4, 4), (4, 4))), order)
            self.assertEqual([type(told), type(told[0]), type(told[1])], [tuple, list, int])


class RefusalTest(unittest.TestCase):
    def test_no_world_then_no_order_then_too_many(self):
        for function in (lengths_for, likeliest_next):
            for world in NO_WORLDS:
                for order in [(), (0,), None, (0, 0)]:
                    with self.assertRaises(NoWorld, msg=(function, world)):
                        function(world, order)
            for order in NO_ORDERS:
                for world in (WORLD, (2, ((1, 99),) * 4)):
                    with self.assertRaises(NoOrder, msg=(function, order)):
                        function(world, order)
            for world in TOO_MANY:
                for order in [(), (0,), (0, 1)]:
                    with self.assertRaises(TooMany, msg=(function, world, order)):
                        function(world, order)
                for order in [(0, 0), [0], None, (True,), (9,), (-1,)]:
                    with self.assertRaises(NoOrder, msg=(function, world, order)):
                        function(world, order)

    def test_none_of_600(self):
        for world in JUST_ENOUGH:
            self.assertEqual(len(lengths_for(world, ())), 600)
            self.assertGreater(likeliest_next(world, ())[1], 0)

    def test_too_many_also_of_what_can_not_have_been(self):
        world = (2, ((99, 99), (1, 1)) + ((1, 99),) * 2)
        for function in (lengths_for, likeliest_next):
            with self.assertRaises(TooMany):
                function(world, (0,))


if __name__ == "__main__":
    unittest.main()
