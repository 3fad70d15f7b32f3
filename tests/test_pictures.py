"""Points [1] and [17]: pictures of benches at work, drawn and read back, and all else refused."""

import itertools
import unittest

from benchends.errors import NoLengths, NoText, NoWorld
from benchends.pictures import picture, read_picture
from helper import (
    LARGE_WORLDS, NO_LENGTHS, NO_TEXTS, NO_WORLDS, SMALL_WORLDS, WORLD, changed_once, changed_twice, some_lengths,
    timeline,
)

SIGNS = list("abcdefghijk.\n") + ["A", "J", " ", "z", "1", "`", "\r", "\u0430"]


def drawn(benches, lengths):
    """The picture, moment by moment."""
    told = timeline(benches, lengths, range(len(lengths)))
    lines = []
    for bench in range(benches):
        lines.append("".join("." if part[bench] is None else "abcdefghij"[part[bench]] for part in told))
    return "\n".join(lines)


def all_pictures(most):
    """All pictures with so many letters or fewer, each with how many benches and lengths it has."""
    found = {}
    for letters in range(1, most + 1):
        for cuts in itertools.product((False, True), repeat=letters - 1):
            lengths = [1]
            for cut in cuts:
                if cut:
                    lengths.append(1)
                else:
                    lengths[-1] += 1
            if len(lengths) <= 10:
                for benches in range(1, 5):
                    found[drawn(benches, lengths)] = (benches, tuple(lengths))
    return found


def world_of(benches, lengths):
    return benches, tuple((length, length) for length in lengths)


class PictureTest(unittest.TestCase):
    def assert_both_ways(self, world, lengths):
        text = drawn(world[0], lengths)
        self.assertEqual(picture(world, lengths), text)
        self.assertEqual(read_picture(text), (world[0], lengths), text)

    def test_both_ways(self):
        for world in SMALL_WORLDS + LARGE_WORLDS:
            for lengths in some_lengths(world, 101):
                self.assert_both_ways(world, lengths)

    def test_to_the_letter(self):
        self.assertEqual(picture(WORLD, (3, 4, 5, 6)), "aaaccccc..\nbbbbdddddd")
        self.assertEqual(read_picture("aaaccccc..\nbbbbdddddd"), (2, (3, 4, 5, 6)))
        self.assertEqual(picture(WORLD, (5, 4, 9, 2)), "aaaaadd......\nbbbbccccccccc")
        self.assertEqual(read_picture("a"), (1, (1,)))
        self.assertEqual(picture((1, ((1, 1),)), (1,)), "a")

    def test_one_bench(self):
        self.assertEqual(picture((1, ((1, 9),) * 3), (2, 1, 3)), "aabccc")
        self.assertEqual(read_picture("aabccc"), (1, (2, 1, 3)))

    def test_benches_that_take_up_nothing(self):
        self.assertEqual(picture((4, ((1, 9),) * 2), (1, 3)), "a..\nbbb\n...\n...")
        self.assertEqual(read_picture("a..\nbbb\n...\n..."), (4, (1, 3)))
        self.assertEqual(read_picture("aa\n.."), (2, (2,)))

    def test_ten_works_and_lengths_1_and_99(self):
        for benches in range(1, 5):
            for lengths in [(1,) * 10, (99,) * 10, (1, 99) * 5, (99, 1) * 5, (99,), (1,), (99,) * 4]:
                self.assert_both_ways(world_of(benches, lengths), lengths)
        self.assertEqual(picture((1, ((1, 1),) * 10), (1,) * 10), "abcdefghij")

    def test_the_kinds_of_the_answers(self):
        told = read_picture("a.\nbb")
        self.assertEqual([type(told), type(told[0]), type(told[1])], [tuple, int, tuple])
        self.assertEqual({type(length) for length in told[1]}, {int})
        self.assertIs(type(picture(WORLD, (3, 4, 5, 6))), str)

    def test_no_world_then_no_lengths(self):
        for world in NO_WORLDS:
            for lengths in [(3, 4, 5, 6), (1,), None, [], (True,)]:
                with self.assertRaises(NoWorld, msg=world):
                    picture(world, lengths)
        for lengths in NO_LENGTHS:
            with self.assertRaises(NoLengths, msg=lengths):
                picture(WORLD, lengths)


class ReadPictureTest(unittest.TestCase):
    def assert_read_as_known(self, known, text):
        if text in known:
            self.assertEqual(read_picture(text), known[text], text)
        else:
            with self.assertRaises(NoText, msg=repr(text)):
                read_picture(text)
        return text in known

    def test_signs_left_out_put_in_or_exchanged(self):
        # With two signs more none has more letters than the known ones.
        known = all_pictures(10)
        read = 0
        for start in sorted(text for text, found in known.items() if sum(found[1]) <= 8)[::15]:
            for text in changed_once(start, SIGNS) + changed_twice(start, SIGNS, 400, 102):
                read += self.assert_read_as_known(known, text)
        self.assertGreater(read, 1000)

    def test_all_short_texts(self):
        known = all_pictures(5)
        read = 0
        for many in range(6):
            for signs in itertools.product("abcd.\n", repeat=many):
                read += self.assert_read_as_known(known, "".join(signs))
        self.assertGreater(read, 30)

    def test_pictures_of_many_works(self):
        for world in LARGE_WORLDS[::4]:
            lengths = some_lengths(world, 103)[0]
            text = drawn(world[0], lengths)
            for changed in changed_twice(text, SIGNS, 100, 104):
                # Whatever is read has just this picture.
                try:
                    benches, found = read_picture(changed)
                except NoText:
                    continue
                self.assertEqual(drawn(benches, found), changed)

    def test_what_is_no_picture(self):
        for text in [
            "", ".", "...", "\n", "\n\n", ".\n.", "a\n", "\na", "a\n\n", "a\r\n.", "a ", " a", "a\t",
            # a line too short, too long, or too many
            "aaaccccc.\nbbbbdddddd", "aaaccccc...\nbbbbdddddd", "aaaccccc\nbbbbdddddd", "aaaccccc..\nbbbbddddd",
            "aaaccccc..\nbbbbdddddd\n", "\naaaccccc..\nbbbbdddddd", "aaaccccc..\n\nbbbbdddddd", "aa\n.", "aa\n...",
            # five lines
            "a\nb\nc\nd\ne", "a\n.\n.\n.\n.", "aaaccccc..\nbbbbdddddd\n..........\n..........\n..........",
            # a letter left out, out of its place, or beyond the tenth
            "b", "ac", "aac", "a\nc", "ba", "aba", "aabb.\nc", "b\na", "ab\nc.", "a.b", ".a", "a.\n.b", "abcdefghijk",
            "abcdefghik", "k", "a\nb\nc\nk", "aab\ncc.", "aac\nb..", "a.c\nbb.", "aaaddddd..\nbbbbcccccc",
            # other letters and signs
            "A", "aA", "AB", "a1", "0", "a-", "a,b", "\u0430", "a\u0430", "\u00e4", "a\x00", "a\u2028.",
            # a last column of dots alone
            "a.", "aa.\nbb.", "a..\nbb.", "aaaccccc...\nbbbbdddddd.",
            # works too long
            "a" * 100, "a" * 101, "a" * 100 + "\n" + "." * 100, "a" * 99 + "b" * 100, "a" * 10000, "." * 10000,
        ]:
            with self.assertRaises(NoText, msg=repr(text)):
                read_picture(text)

    def test_99_moments_are_read_and_100_are_not(self):
        self.assertEqual(read_picture("a" * 99), (1, (99,)))
        self.assertEqual(read_picture("a" * 99 + "b" * 99), (1, (99, 99)))
        for lengths in [(100,), (1, 100), (100, 1), (99, 100, 99), (100,) * 10]:
            for benches in range(1, 5):
                with self.assertRaises(NoText, msg=(benches, lengths)):
                    read_picture(drawn(benches, lengths))

    def test_lines_of_dots_make_no_world_by_themselves(self):
        for lines in range(1, 6):
            for many in (0, 1, 5):
                with self.assertRaises(NoText):
                    read_picture("\n".join(["." * many] * lines))

    def test_things_of_other_kinds(self):
        for thing in NO_TEXTS + [["a"], ("a",), b"a", (2, (1, 1)), {"a": 1}, ["a", "b"]]:
            with self.assertRaises(NoText, msg=repr(thing)):
                read_picture(thing)


if __name__ == "__main__":
    unittest.main()
