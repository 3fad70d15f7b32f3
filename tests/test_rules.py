"""Points [1], [4] and [5]: the rules of an order, to the letter."""

import unittest

from benchends.rules import rules
from helper import WORLD as TWO_BENCHES
from helper import orders_by_playing

ONE_BENCH = (1, ((1, 2), (3, 4), (5, 99)))
FOUR_BENCHES = (4, tuple((work + 1, work + 11) for work in range(10)))


def rules_by_playing(world, order):
    """The rules, with each begin found by taking works up from the row, end by end."""
    row = list(range(len(world[1])))
    begins = {}
    for bench in range(world[0]):
        if row:
            begins[row.pop(0)] = 0
    told = []
    for event, work in enumerate(order, 1):
        least, greatest = world[1][work]
        told += [(event, begins[work], greatest), (begins[work], event, 0 - least), (event - 1, event, 0)]
        if row:
            begins[row.pop(0)] = event
    return told + [(len(order), begins[work], world[1][work][1]) for work in sorted(set(begins) - set(order))]


class RulesToTheLetterTest(unittest.TestCase):
    def test_no_end(self):
        self.assertEqual(rules(TWO_BENCHES, ()), [(0, 0, 5), (0, 0, 4)])
        self.assertEqual(rules(ONE_BENCH, ()), [(0, 0, 2)])
        self.assertEqual(rules(FOUR_BENCHES, ()), [(0, 0, 11), (0, 0, 12), (0, 0, 13), (0, 0, 14)])

    def test_one_end(self):
        self.assertEqual(rules(TWO_BENCHES, (1,)), [
            (1, 0, 4), (0, 1, -4), (0, 1, 0),
            (1, 0, 5), (1, 1, 9),
        ])

    def test_some_ends(self):
        self.assertEqual(rules(TWO_BENCHES, (1, 2, 0)), [
            (1, 0, 4), (0, 1, -4), (0, 1, 0),
            (2, 1, 9), (1, 2, -1), (1, 2, 0),
            (3, 0, 5), (0, 3, -3), (2, 3, 0),
            (3, 2, 6),
        ])

    def test_all_ends(self):
        self.assertEqual(rules(TWO_BENCHES, (1, 2, 0, 3)), [
            (1, 0, 4), (0, 1, -4), (0, 1, 0),
            (2, 1, 9), (1, 2, -1), (1, 2, 0),
            (3, 0, 5), (0, 3, -3), (2, 3, 0),
            (4, 2, 6), (2, 4, -2), (3, 4, 0),
        ])

    def test_one_bench(self):
        self.assertEqual(rules(ONE_BENCH, (0,)), [(1, 0, 2), (0, 1, -1), (0, 1, 0), (1, 1, 4)])
        self.assertEqual(rules(ONE_BENCH, (0, 1, 2)), [
            (1, 0, 2), (0, 1, -1), (0, 1, 0),
            (2, 1, 4), (1, 2, -3), (1, 2, 0),
            (3, 2, 99), (2, 3, -5), (2, 3, 0),
        ])

    def test_four_benches(self):
        self.assertEqual(rules(FOUR_BENCHES, (3, 4)), [
            (1, 0, 14), (0, 1, -4), (0, 1, 0),
            (2, 1, 15), (1, 2, -5), (1, 2, 0),
            (2, 0, 11), (2, 0, 12), (2, 0, 13), (2, 2, 16),
        ])

    def test_ten_works_of_which_the_last_runs(self):
        told = rules(FOUR_BENCHES, (0, 1, 2, 3, 4, 5, 6, 7, 8))
        self.assertEqual(told[24:], [(9, 5, 19), (5, 9, -9), (8, 9, 0), (9, 6, 20)])

    def test_more_benches_than_works(self):
        world = (4, ((1, 2), (3, 4)))
        self.assertEqual(rules(world, ()), [(0, 0, 2), (0, 0, 4)])
        self.assertEqual(rules(world, (1,)), [(1, 0, 4), (0, 1, -3), (0, 1, 0), (1, 0, 2)])
        self.assertEqual(rules(world, (1, 0)), [
            (1, 0, 4), (0, 1, -3), (0, 1, 0),
            (2, 0, 2), (0, 2, -1), (1, 2, 0),
        ])

    def test_an_order_that_can_not_have_been_has_rules_too(self):
        self.assertEqual(rules((2, ((9, 9), (1, 1))), (0, 1)), [
            (1, 0, 9), (0, 1, -9), (0, 1, 0),
            (2, 0, 1), (0, 2, -1), (1, 2, 0),
        ])

    def test_rules_stand_as_the_order_has_the_works_not_as_they_rise(self):
        world = (3, ((1, 10), (2, 20), (3, 30)))
        self.assertEqual([rule[2] for rule in rules(world, (2, 0, 1))], [30, -3, 0, 10, -1, 0, 20, -2, 0])


class RulesByPlayingTest(unittest.TestCase):
    def test_all_orders_of_small_worlds(self):
        for benches in range(1, 5):
            for works in range(1, 6):
                world = (benches, tuple((work + 1, 2 * work + 3) for work in range(works)))
                for order in orders_by_playing(benches, works):
                    self.assertEqual(rules(world, order), rules_by_playing(world, order), (world, order))

    def test_long_orders_of_ten_works(self):
        for benches in range(1, 5):
            world = (benches, FOUR_BENCHES[1])
            order = ()
            while len(order) < 10:
                began = range(min(10, benches + len(order)))
                order += (max(work for work in began if work not in order),)
                self.assertEqual(rules(world, order), rules_by_playing(world, order), (world, order))


class ToldAnewTest(unittest.TestCase):
    def test_the_answer_is_a_list_of_tuples_of_three_whole_numbers(self):
        told = rules(TWO_BENCHES, (1, 2))
        self.assertIs(type(told), list)
        for rule in told:
            self.assertIs(type(rule), tuple)
            self.assertEqual([type(part) for part in rule], [int, int, int])

    def test_changing_what_was_told_changes_nothing_that_is_told_later(self):
        for order in [(), (1, 2), (1, 2, 0, 3)]:
            told = rules(TWO_BENCHES, order)
            expected = list(told)
            told[0] = None
            told.append((9, 9, 9))
            again = rules(TWO_BENCHES, order)
            self.assertIsNot(again, told)
            self.assertEqual(again, expected)
            again.clear()
            self.assertEqual(rules(TWO_BENCHES, order), expected)

    def test_equal_things_give_equal_answers(self):
        world = (2, tuple(tuple(list(bounds)) for bounds in TWO_BENCHES[1]))
        self.assertEqual(rules(world, tuple([1, 2])), rules(TWO_BENCHES, (1, 2)))

    def test_other_calls_between_change_nothing(self):
        before = rules(TWO_BENCHES, (1, 2))
        rules(ONE_BENCH, (0,))
        rules(TWO_BENCHES, (0, 1))
        self.assertEqual(rules(TWO_BENCHES, (1, 2)), before)

    def test_arguments_bear_the_names_of_the_interface(self):
        self.assertEqual(rules(world=TWO_BENCHES, order=()), [(0, 0, 5), (0, 0, 4)])


if __name__ == "__main__":
    unittest.main()
