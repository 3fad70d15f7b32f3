"""Points [1], [3] and [14]: worlds and orders as texts, written and read back, and all else refused."""

import re
import unittest

from benchends.errors import NoOrder, NoText, NoWorld
from benchends.worldtexts import order_text, read_order, read_world, world_text
from helper import (
    LARGE_WORLDS, NO_ORDERS, NO_TEXTS, NO_WORLDS, SMALL_WORLDS, WORLD, changed_once, changed_twice, orders_by_playing,
)

SIGNS = list("0123456789-: ") + ["+", "\n", "\t", "\r", ",", "a", "_", "\u0663", "\u00b2", "\uff13", "\u00a0"]

WRITTEN_WORLD = re.compile(r"([1-4]):((?: [1-9][0-9]?(?:-[1-9][0-9]?)?){1,10})")


def world_by_form(text):
    """The world that has this text, by its form alone, or None."""
    found = WRITTEN_WORLD.fullmatch(text)
    if not found:
        return None
    parts = [tuple(int(number) for number in part.split("-")) for part in found[2][1:].split(" ")]
    if any(len(part) == 2 and part[0] >= part[1] for part in parts):
        return None
    return int(found[1]), tuple((part[0], part[-1]) for part in parts)


class WorldTextTest(unittest.TestCase):
    def test_to_the_letter(self):
        for text, world in [
            ("2: 3-5 4 1-9", (2, ((3, 5), (4, 4), (1, 9)))),
            ("2: 3-5 4 1-9 2-6", WORLD),
            ("1: 1", (1, ((1, 1),))),
            ("4: 99", (4, ((99, 99),))),
            ("3: 1-99", (3, ((1, 99),))),
            ("3: 9-10 10 98-99 9 10-90", (3, ((9, 10), (10, 10), (98, 99), (9, 9), (10, 90)))),
            ("4: 1 2 3 4 5 6 7 8 9 10", (4, tuple((length, length) for length in range(1, 11)))),
            ("4:" + " 10-99" * 10, (4, ((10, 99),) * 10)),
        ]:
            self.assertEqual(world_text(world), text)
            self.assertEqual(read_world(text), world)

    def test_both_ways(self):
        for world in SMALL_WORLDS + LARGE_WORLDS:
            text = world_text(world)
            self.assertEqual(world_by_form(text), world, text)
            self.assertEqual(read_world(text), world, text)

    def test_all_bounds_of_a_work(self):
        for least in range(1, 100):
            for greatest in range(1, 100):
                text = f"1: {least}-{greatest}"
                if least < greatest:
                    self.assertEqual(read_world(text), (1, ((least, greatest),)))
                    self.assertEqual(world_text((1, ((least, greatest),))), text)
                else:
                    with self.assertRaises(NoText, msg=text):
                        read_world(text)
            self.assertEqual(world_text((1, ((least, least),))), f"1: {least}")
            self.assertEqual(read_world(f"1: {least}"), (1, ((least, least),)))

    def test_the_kinds_of_the_answers(self):
        told = read_world("2: 3-5 4")
        self.assertEqual([type(told), type(told[0]), type(told[1]), type(told[1][1])], [tuple, int, tuple, tuple])
        self.assertEqual({type(number) for part in told[1] for number in part}, {int})
        self.assertIs(type(world_text(WORLD)), str)

    def test_no_world(self):
        for world in NO_WORLDS:
            with self.assertRaises(NoWorld, msg=world):
                world_text(world)


class ReadWorldTest(unittest.TestCase):
    def assert_read_as_by_form(self, text):
        world = world_by_form(text)
        if world is None:
            with self.assertRaises(NoText, msg=repr(text)):
                read_world(text)
        else:
            self.assertEqual(read_world(text), world, text)
            self.assertEqual(world_text(world), text)
        return world is not None

    def test_a_sign_left_out_put_in_or_exchanged(self):
        read = 0
        starts = ["2: 3-5 4 1-9", "1: 1", "4: 99", "3: 10-99 9", "2: 9-10 89-98", "4:" + " 1-99" * 10, "1:" + " 7" * 10]
        for start in starts:
            for text in changed_once(start, SIGNS):
                read += self.assert_read_as_by_form(text)
        self.assertGreater(read, 500)

    def test_two_signs_left_out_put_in_or_exchanged(self):
        read = 0
        for once in changed_once("1: 1", SIGNS):
            for text in changed_once(once, SIGNS):
                read += self.assert_read_as_by_form(text)
        for start, many in [("2: 3-5 4", 20000), ("2: 3-5 4 1-9", 10000), ("4:" + " 9-10" * 10, 3000)]:
            for text in changed_twice(start, SIGNS, many, 71):
                read += self.assert_read_as_by_form(text)
        self.assertGreater(read, 1000)

    def test_what_is_no_text_of_a_world(self):
        for text in [
            "", " ", ":", ": ", "2", "2:", "2: ", "2:3", "2 3", "2:  3", "2 : 3", " 2: 3", "2: 3 ", "2:\n3", "2: 3\n",
            "\n2: 3", "2: 3\n4", "2: 3\t4", "2: 3  4", "2:: 3", "2: : 3", "2: 3: 4", "2: 2: 3", "2: 3:",
            # a needless 0, a sign
            "02: 3", "2: 03", "2: 003", "2: 03-5", "2: 3-05", "2: 3-005", "+2: 3", "-2: 3", "2: +3", "2: -3", "2: 3-+5",
            "2: 3--5", "2: 3-", "2: -5", "2: -", "2: 3-5-", "2: 3-5-7", "2: --3", "2: 3- 5", "2: 3 -5", "2: 3 - 5",
            # one number where both are one, and the least first
            "2: 4-4", "2: 99-99", "2: 1-1", "2: 5-3", "2: 99-98", "2: 10-9", "2: 3-5 4-4", "2: 4 5-3",
            # lengths and benches beyond the edges
            "2: 0", "2: 00", "2: 100", "2: 0-5", "2: 3-100", "2: 99-100", "2: 1000", "2: 3-0", "0: 3", "5: 3", "10: 3",
            "2: 12345678901234567890", "2: " + "9" * 5000, "9" * 5000 + ": 3", "2: 3-" + "9" * 5000,
            # too many works
            "2:" + " 3" * 11, "2:" + " 3" * 1000, "2:" + " 3-5" * 11,
            # other signs
            "2: 3.0", "2: 3e1", "2: 3_0", "2: 0x3", "2: a", "a: 3", "2: 3,4", "(2, ((3, 5),))", "2; 3", "2: 3/5",
            "\u0662: 3", "2: \u0663", "2: \u00b2", "2: \uff13", "2: 3\u20135", "2:\u00a03", "2: 3\u00a04",
            "2: 3\x00", "\ufeff2: 3",
        ]:
            with self.assertRaises(NoText, msg=repr(text)):
                read_world(text)
            self.assertIsNone(world_by_form(text))

    def test_things_of_other_kinds(self):
        for thing in NO_TEXTS + [WORLD, ["2: 3-5"], ("2: 3-5",), b"2: 3-5", {"2: 3-5": 1}]:
            with self.assertRaises(NoText, msg=repr(thing)):
                read_world(thing)


class OrderTextTest(unittest.TestCase):
    def test_to_the_letter(self):
        world = (4, ((1, 9),) * 10)
        for text, order in [
            ("", ()), ("0", (0,)), ("3", (3,)), ("1 2 0", (1, 2, 0)), ("3 4 5 6 7", (3, 4, 5, 6, 7)),
            ("3 4 5 6 7 8 9 0 1 2", (3, 4, 5, 6, 7, 8, 9, 0, 1, 2)),
        ]:
            self.assertEqual(order_text(world, order), text)
            self.assertEqual(read_order(world, text), order)

    def test_both_ways(self):
        for benches in range(1, 5):
            for works in range(1, 6):
                world = (benches, ((1, 9),) * works)
                for order in orders_by_playing(benches, works):
                    self.assertEqual(read_order(world, order_text(world, order)), order)

    def test_orders_that_can_not_have_been_are_orders_still(self):
        world = (2, ((9, 9), (1, 1)))
        self.assertEqual(order_text(world, (0, 1)), "0 1")
        self.assertEqual(read_order(world, "0 1"), (0, 1))

    def test_the_kinds_of_the_answers(self):
        self.assertEqual([type(read_order(WORLD, "")), type(read_order(WORLD, "1 0"))], [tuple, tuple])
        self.assertEqual({type(work) for work in read_order(WORLD, "1 0")}, {int})
        self.assertEqual([type(order_text(WORLD, ())), type(order_text(WORLD, (1, 0)))], [str, str])

    def test_no_world_and_no_order(self):
        for world in NO_WORLDS:
            for order in [(), (0,), None, (0, 0)]:
                with self.assertRaises(NoWorld, msg=world):
                    order_text(world, order)
        for order in NO_ORDERS:
            with self.assertRaises(NoOrder, msg=order):
                order_text(WORLD, order)


class ReadOrderTest(unittest.TestCase):
    def setUp(self):
        self.texts = {}
        for benches in range(1, 5):
            for works in range(1, 6):
                orders = orders_by_playing(benches, works)
                self.texts[benches, works] = {" ".join(str(work) for work in order): order for order in orders}

    def test_signs_left_out_put_in_or_exchanged(self):
        signs = list("0123456789 ") + ["-", "+", ",", "\n", "\t", "\u0661"]
        for (benches, works), known in self.texts.items():
            world = (benches, ((1, 9),) * works)
            start = sorted(known, key=lambda text: (len(text), text))[-1]
            for text in changed_once(start, signs) + changed_twice(start, signs, 700, 72) + changed_once("0", signs):
                if text in known:
                    self.assertEqual(read_order(world, text), known[text])
                else:
                    with self.assertRaises(NoText, msg=(world, text)):
                        read_order(world, text)

    def test_what_is_no_text_of_an_order_of_the_world(self):
        for text in [
            # a work ahead of its begin, twice, beyond the works
            "2", "3", "0 3", "2 0", "3 2 1 0", "0 0", "1 1", "0 1 0", "0 1 2 3 3", "0 1 2 3 0", "4", "0 4", "0 1 2 3 4",
            "10", "9", "0 10", "99999999999999999999", "9" * 5000, "0 " * 100000 + "0",
            # other figures and signs
            "00", "01", "0 01", "-0", "+0", "-1", "0 -1", "0x0", "0.0", "0,1", "(0, 1)", "a", "0 a", "\u0660", "\u0661",
            "\u00b9", "\uff11", "True", "None", "0_1", "0 1_",
            # blanks and the like
            " ", "  ", "0  1", " 0", "0 ", " 0 1", "0 1 ", "0\n", "\n0", "\n", "0\n1", "0\t1", "0 1\n", "0\r",
            "0\u00a01", "0\x00",
        ]:
            with self.assertRaises(NoText, msg=repr(text)):
                read_order(WORLD, text)

    def test_things_of_other_kinds(self):
        for thing in NO_TEXTS + [(0, 1), [0, 1], ["0 1"], ("0 1",), b"0 1", {"0 1": 1}]:
            with self.assertRaises(NoText, msg=repr(thing)):
                read_order(WORLD, thing)

    def test_no_world_goes_ahead_of_no_text(self):
        for world in NO_WORLDS:
            for text in ["", "0", "00", "no", None, 0, [], True]:
                with self.assertRaises(NoWorld, msg=world):
                    read_order(world, text)


if __name__ == "__main__":
    unittest.main()
