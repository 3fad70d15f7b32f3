"""Points [1], [3], [9] and [11]: a watch, which is told ends and takes them back."""

import unittest

from benchends.could import moments
from benchends.errors import Never, NoStep, NoWork, NoWorld
from benchends.orders import may_end, played
from benchends.watches import Watch
from helper import (
    LARGE_WORLDS, NO_NUMBERS, NO_WORLDS, SMALL_WORLDS, THINGS_OF_OTHER_KINDS, WORLD, counted_worlds, numbers,
    some_lengths,
)

# What is never a work, whatever runs.
NO_WORKS = NO_NUMBERS + [
    -1, -2, 10, 11, 99, 10 ** 400, -10 ** 400, "2", (0,), [0], (0, 1), {0: 0}, range(1), frozenset([0]),
]
NO_WORKS += [thing for thing in THINGS_OF_OTHER_KINDS if isinstance(thing, bool) or not isinstance(thing, int)]

# By these lengths work 1 ends first, then work 2, then work 0.
SETTLED = (2, ((9, 9), (1, 1), (1, 1)))


def runs_by(world, order):
    return [work for work in range(min(len(world[1]), world[0] + len(order))) if work not in order]


def state(watch):
    return watch.order(), watch.runs(), watch.may_end()


class WatchCase(unittest.TestCase):
    def assert_refused(self, refusal, watch, call, *given):
        before = state(watch)
        with self.assertRaises(refusal, msg=(before, call, given)) as caught:
            getattr(watch, call)(*given)
        self.assertIs(type(caught.exception), refusal)
        self.assertEqual(state(watch), before)

    def assert_state(self, watch, world, order, may):
        self.assertEqual(state(watch), (order, runs_by(world, order), may), world)


class CallsTest(WatchCase):
    def go_on(self, watch, world, counted, order, number):
        """One call, of an end that may be, of one that may not, or of what is taken back: tells the order behind it."""
        runs = runs_by(world, order)
        if number % 4 == 0:
            if not order:
                self.assert_refused(NoStep, watch, "undo")
                return order
            self.assertEqual(watch.undo(), order[-1])
            return order[:-1]
        work = number // 4 % (len(world[1]) + 1)
        if work not in runs:
            self.assert_refused(NoWork, watch, "end", work)
            return order
        longer = order + (work,)
        if longer not in counted:
            self.assert_refused(Never, watch, "end", work)
            return order
        self.assertEqual(watch.end(work), min(ends[-1] for lengths, ends in counted[longer]), (world, longer))
        return longer

    def test_many_calls_against_an_order_kept_by_the_test(self):
        step = numbers(31)
        lengths_of_orders = set()
        for world, counted in counted_worlds():
            watch, order = Watch(world), ()
            for call in range(30):
                order = self.go_on(watch, world, counted, order, next(step))
                may = [work for work in runs_by(world, order) if order + (work,) in counted]
                self.assert_state(watch, world, order, may)
                lengths_of_orders.add((len(world[1]), len(order)))
        self.assertTrue({(works, many) for works in range(1, 5) for many in range(works + 1)} <= lengths_of_orders)

    def test_each_order_that_can_have_been_end_by_end(self):
        for world, counted in counted_worlds():
            for order in [order for order in counted if len(order) == len(world[1])]:
                watch = Watch(world)
                for many, work in enumerate(order, start=1):
                    earliest = min(ends[-1] for lengths, ends in counted[order[:many]])
                    self.assertEqual(watch.end(work), earliest, (world, order[:many]))
                self.assert_state(watch, world, order, [])

    def test_worlds_of_many_works(self):
        for world in LARGE_WORLDS:
            for some in some_lengths(world, 41):
                order = played(world, some)[0]
                watch = Watch(world)
                for many in range(len(order)):
                    self.assert_state(watch, world, order[:many], may_end(world, order[:many]))
                    self.assertEqual(watch.end(order[many]), moments(world, order[:many + 1])[-1])
                self.assert_state(watch, world, order, [])
                for many in reversed(range(len(order))):
                    self.assertEqual(watch.undo(), order[many])
                    self.assert_state(watch, world, order[:many], may_end(world, order[:many]))
                self.assert_refused(NoStep, watch, "undo")

    def test_to_the_letter(self):
        watch = Watch(WORLD)
        self.assert_state(watch, WORLD, (), [0, 1])
        self.assertEqual(watch.end(1), 4)
        self.assert_state(watch, WORLD, (1,), [0, 2])
        self.assertEqual(watch.end(2), 5)
        self.assertEqual(watch.runs(), [0, 3])
        self.assertEqual(watch.may_end(), [0])
        self.assertEqual(watch.end(0), 5)
        self.assertEqual(watch.runs(), [3])
        self.assertEqual(watch.end(3), 7)
        self.assertEqual((watch.order(), watch.runs(), watch.may_end()), ((1, 2, 0, 3), [], []))
        self.assertEqual([watch.undo(), watch.undo(), watch.undo()], [3, 0, 2])
        self.assertEqual(watch.end(0), 4)
        self.assertEqual(watch.order(), (1, 0))

    def test_ends_are_told_anew_behind_those_taken_back(self):
        watch = Watch(SETTLED)
        for again in range(3):
            self.assertEqual([watch.end(work) for work in (1, 2, 0)], [1, 2, 9])
            self.assertEqual(state(watch), ((1, 2, 0), [], []))
            self.assertEqual([watch.undo() for end in range(3)], [0, 2, 1])
            self.assertEqual(state(watch), ((), [0, 1], [1]))

    def test_the_kinds_of_the_answers(self):
        watch = Watch(WORLD)
        self.assertEqual([type(part) for part in state(watch)], [tuple, list, list])
        self.assertIs(type(watch.end(0)), int)
        self.assertEqual([type(part) for part in state(watch)], [tuple, list, list])
        self.assertIs(type(watch.undo()), int)

    def test_the_world_and_the_work_bear_their_names(self):
        watch = Watch(world=WORLD)
        self.assertEqual(watch.end(work=1), 4)


class RefusalTest(WatchCase):
    def test_no_world(self):
        for world in NO_WORLDS:
            with self.subTest(world=world):
                with self.assertRaises(NoWorld):
                    Watch(world)

    def test_no_work_for_what_is_none(self):
        for world in [WORLD, SETTLED, (1, ((1, 1),)), (4, ((1, 99),) * 10)]:
            watch = Watch(world)
            for again in range(3):
                for thing in NO_WORKS:
                    self.assert_refused(NoWork, watch, "end", thing)
                if watch.may_end():
                    watch.end(watch.may_end()[0])

    def test_no_work_for_one_that_ended_or_has_not_begun(self):
        watch = Watch(WORLD)
        for work in (2, 3, 4, 5, 9):
            self.assert_refused(NoWork, watch, "end", work)
        watch.end(1)
        for work in (1, 3, 4):
            self.assert_refused(NoWork, watch, "end", work)
        watch.end(0)
        for work in (0, 1, 4):
            self.assert_refused(NoWork, watch, "end", work)

    def test_no_work_behind_all_ends(self):
        for world in SMALL_WORLDS[:40] + LARGE_WORLDS:
            watch = Watch(world)
            while watch.may_end():
                watch.end(watch.may_end()[-1])
            self.assertEqual(sorted(watch.order()), list(range(len(world[1]))))
            self.assertEqual(watch.runs(), [])
            for work in range(-1, 12):
                self.assert_refused(NoWork, watch, "end", work)

    def test_true_and_false_are_no_works_where_0_and_1_run(self):
        watch = Watch((2, ((1, 9), (1, 9))))
        for thing in (True, False):
            self.assert_refused(NoWork, watch, "end", thing)
        watch.end(0)
        self.assert_refused(NoWork, watch, "end", True)

    def test_never_for_one_that_runs_and_can_not_end_next(self):
        watch = Watch(SETTLED)
        self.assert_refused(Never, watch, "end", 0)
        self.assertEqual(watch.end(1), 1)
        self.assert_refused(Never, watch, "end", 0)
        self.assert_refused(NoWork, watch, "end", 1)
        self.assertEqual(watch.end(2), 2)
        self.assertEqual(watch.end(0), 9)

    def test_no_step(self):
        watch = Watch(WORLD)
        self.assert_refused(NoStep, watch, "undo")
        watch.end(0)
        watch.undo()
        self.assert_refused(NoStep, watch, "undo")
        self.assert_refused(NoStep, watch, "undo")


class KeptTest(WatchCase):
    def test_two_watches_of_one_world_do_not_change_each_other(self):
        one, other = Watch(WORLD), Watch(WORLD)
        one.end(1)
        self.assertEqual(state(other), ((), [0, 1], [0, 1]))
        other.end(0)
        self.assertEqual(state(one), ((1,), [0, 2], [0, 2]))
        self.assertEqual(one.undo(), 1)
        self.assertEqual(state(other), ((0,), [1, 2], [1, 2]))
        self.assertEqual(state(Watch(WORLD)), ((), [0, 1], [0, 1]))

    def test_equal_calls_give_equal_answers(self):
        step = numbers(7)
        for world in LARGE_WORLDS:
            one, other = Watch(world), Watch((world[0], tuple(tuple(list(part)) for part in world[1])))
            for call in range(20):
                number = next(step)
                if number % 3 == 0 and one.order():
                    self.assertEqual(one.undo(), other.undo())
                elif one.may_end():
                    work = one.may_end()[number % len(one.may_end())]
                    self.assertEqual(one.end(work), other.end(work))
                self.assertEqual(state(one), state(other))

    def test_told_lists_are_new_ones_each_time(self):
        watch = Watch(WORLD)
        for again in range(3):
            self.assertIsNot(watch.runs(), watch.runs())
            self.assertIsNot(watch.may_end(), watch.may_end())
            self.assertIsNot(watch.runs(), watch.may_end())
            watch.end(watch.may_end()[0])

    def test_changing_a_told_list_changes_nothing_that_is_told_later(self):
        watch = Watch(WORLD)
        for work in (1, 0, 2, 3):
            expected = state(watch)
            for told in expected[1:]:
                changed = list(told)
                told.clear()
                told.append("changed")
                self.assertEqual(state(watch)[0], expected[0])
                self.assertNotIn("changed", watch.runs() + watch.may_end())
                told[:] = changed
            self.assertEqual(state(watch), expected)
            watch.end(work)

    def test_a_refused_thing_stands_as_it_was(self):
        watch = Watch(WORLD)
        for thing in ([0], [[1]], {0: [1]}):
            before = str(thing)
            self.assert_refused(NoWork, watch, "end", thing)
            self.assertEqual(str(thing), before)


if __name__ == "__main__":
    unittest.main()
