"""Points 6 and 7: the least row, its choices, and the quick row."""

import random
import time
import unittest

from tests.helper import (
    Model, ask, counted, least_by_layers, least_of_all, octets, quick_of, random_sent, sent_text,
)


def least(size, sent, sent_wanted):
    line = ask(("size",) + size, ("now", sent), ("wanted", sent_wanted), ("least",))[3]
    behind = line[0] + 1
    choices = line[behind + 1:]
    assert line[behind] == len(choices)
    return sent_text(line[1:behind]), "".join(str(choice) for choice in choices)


def quick(size, sent, sent_wanted):
    line = ask(("size",) + size, ("now", sent), ("wanted", sent_wanted), ("quick",))[3]
    return sent_text(line[1:])


class Least(unittest.TestCase):
    def test_nothing_to_do(self):
        self.assertEqual(least((3, 2), "", ""), ("", "000000"))
        self.assertEqual(least((3, 2), "abcd", "abcd"), ("", "000000"))

    def test_the_cursor_and_the_colour_at_last(self):
        self.assertEqual(least((3, 2), "ab", "ab\r\n"), ("\x1b[B\r", "000000"))
        self.assertEqual(least((3, 2), "ab", "ab\x1b[36m\r"), ("\r\x1b[36m", "000000"))
        self.assertEqual(least((3, 2), "ab\x1b[36m", "ab\r"), ("\r\x1b[m", "000000"))

    def test_a_row_that_is_due(self):
        self.assertEqual(least((3, 2), "abc", "abc"), ("\bb", "020000"))
        self.assertEqual(least((2, 1), "\x1b[31ma\x1b[mb", "\x1b[31ma\x1b[mb"), ("\x1b[C", "00"))
        self.assertEqual(least((3, 2), "ab", "abc"), ("c\x1b[C", "002000"))
        self.assertEqual(least((3, 2), "abc", "abd"), ("\bbd\x1b[C", "022000"))
        self.assertEqual(least((3, 2), "ab", "abcd"), ("c\x1b[B\rd", "002200"))

    def test_written_again_rather_than_gone_round(self):
        self.assertEqual(least((8, 1), "abcde\r", "XbcYe\r"), ("XbcY\r", "22220000"))

    def test_kept_if_that_is_as_short(self):
        self.assertEqual(least((8, 1), "abcdefg\r", "XbcdeYg\r"), ("X\x1b[4CY\r", "20000200"))

    def test_erased_if_that_is_shorter(self):
        self.assertEqual(least((8, 1), "abcdefg", "a"), ("\ra\x1b[K", "21000000"))
        self.assertEqual(least((8, 1), "abcdefg", ""), ("\r\x1b[K", "10000000"))

    def test_erased_if_that_is_as_short(self):
        self.assertEqual(least((4, 1), "xy\r", ""), ("\x1b[K", "1000"))

    def test_written_blank_if_that_is_shorter(self):
        self.assertEqual(least((4, 1), "xyz", "\x1b[3C"), ("\r   ", "2220"))

    def test_erased_once_in_a_row(self):
        size = (5, 2)
        sent = "abcde\x1b[2Habcde\r"
        self.assertEqual(least(size, sent, "a\x1b[2H"), ("\x1b[Aa\x1b[K\x1b[B\b\x1b[K", "2100010000"))

    def test_coloured_blanks_are_not_erased(self):
        sent, choices = least((6, 1), "abcdef\r", "\x1b[31m      \x1b[m\r")
        self.assertEqual((sent, choices), ("\x1b[31m      \r\x1b[m", "222222"))

    def test_colours_between(self):
        self.assertEqual(least((6, 1), "", "a\x1b[31mb\x1b[mc"), ("a\x1b[31mb\x1b[mc", "222000"))
        self.assertEqual(least((6, 1), "\x1b[31m", "ab\x1b[32m"), ("\x1b[mab\x1b[32m", "220000"))

    def test_the_colour_behind_an_erased_row_is_the_one_written_with(self):
        sent, choices = least((3, 3), "aaba", "\x1b[31ma")
        self.assertEqual((sent, choices), ("\x1b[H\x1b[31ma\x1b[K\x1b[B\b\x1b[K\x1b[;2H", "210100000"))

    def test_wide_signs_are_one_unit(self):
        self.assertEqual(least((6, 1), "", "\xc0a\xc1"), ("\xc0a\xc1", "2220"))
        self.assertEqual(least((6, 1), "\xc0\r", "\xc0"), ("\xc0", "20000"))
        self.assertEqual(least((4, 1), "\xc0\xc1\r", "\xc0\xc2\r"), ("\xc0\xc2\r", "22"))

    def test_a_right_half_whose_left_one_was_written_over(self):
        self.assertEqual(least((4, 1), "\xc0\r", "x"), ("x", "2000"))
        self.assertEqual(least((4, 1), "\x1b[31m\xc0\r", "\x1b[31mx"), ("x", "2000"))
        self.assertEqual(least((5, 1), "a\xc0\r", "\xc1"), ("\xc1", "2000"))

    def test_halves_of_others_are_not_kept(self):
        self.assertEqual(least((4, 1), "\xc0\r", "\xc1"), ("\xc1", "200"))
        self.assertEqual(least((4, 1), "\x1b[31m\xc0\x1b[m\r", "\xc0"), ("\xc0", "200"))

    def test_the_region_is_no_matter(self):
        sent, choices = least((3, 4), "\x1b[2;3r\x1b[3H", "\x1b[3Habc\x1b[4Hd")
        self.assertEqual((sent, choices), ("abc\x1b[B\rd", "000000222200"))

    def test_changes_nothing(self):
        lines = ask(("now", "ab"), ("wanted", "aXc"), ("least",), ("quick",), ("least",), ("like",), ("cursor", 0),
                    ("cursor", 1))
        self.assertEqual(lines[2], lines[4])
        self.assertEqual(lines[5:], [[0, 2], [0, 2, 0, 0], [0, 3, 0, 0]])


class Quick(unittest.TestCase):
    def test_kept_or_written(self):
        self.assertEqual(quick((3, 2), "", ""), "")
        self.assertEqual(quick((8, 1), "abcde\r", "XbcYe\r"), "X\x1b[2CY\r")
        self.assertEqual(quick((8, 1), "abcdefg", ""), "\r       \r")
        self.assertEqual(quick((3, 1), "abc", "abc"), "\x1b[C")

    def test_colours_and_wide_signs(self):
        self.assertEqual(quick((6, 1), "\x1b[31m", "ab\x1b[32m"), "\x1b[mab\x1b[32m")
        self.assertEqual(quick((4, 1), "\xc0\r", "x"), "x")
        self.assertEqual(quick((4, 1), "\xc0\xc1\r", "\xc0\xc2\r"), "\x1b[2C\xc2\r")

    def test_never_shorter_than_the_least(self):
        chance = random.Random(6)
        for turn in range(100):
            size = (chance.randrange(2, 13), chance.randrange(1, 7))
            sent = random_sent(chance, 30) + "\x07"
            wanted = random_sent(chance, 30) + "\x07"
            self.assertLessEqual(len(least(size, sent, wanted)[0]), len(quick(size, sent, wanted)))


class BothLeadThere(unittest.TestCase):
    def test_sent_to_now_it_is_like_wanted(self):
        chance = random.Random(7)
        for turn in range(200):
            size = (chance.randrange(2, 13), chance.randrange(1, 7))
            sent = random_sent(chance, 30) + "\x07"
            wanted = random_sent(chance, 30) + "\x07"
            for row in (least(size, sent, wanted)[0], quick(size, sent, wanted)):
                sent_on = [("now", row[place:place + 400]) for place in range(0, len(row), 400)]
                lines = ask(("size",) + size, ("now", sent), ("wanted", wanted), *sent_on, ("like",))
                self.assertEqual(lines[-1], [1, 0], (size, sent, wanted, row))


class AllRowsOfChoices(unittest.TestCase):
    def hold_against(self, size, sent, sent_wanted, slow):
        now, wanted = Model(*size), Model(*size)
        now.feed(octets(sent))
        wanted.feed(octets(sent_wanted))
        row, choices = slow(now, wanted)
        lines = ask(("size",) + size, ("now", sent), ("wanted", sent_wanted), ("least",), ("quick",))
        self.assertEqual(lines[3], counted(row) + counted(choices), (size, sent, sent_wanted))
        self.assertEqual(lines[4], counted(quick_of(now, wanted)), (size, sent, sent_wanted))

    def test_every_pair_of_short_rows(self):
        signs = ["a", " ", "\xc0", "\x1b[31ma", "\x1b[31m "]
        rows = [one + two + "\x1b[m" for one in signs for two in signs]
        for sent in rows:
            for sent_wanted in rows:
                self.hold_against((4, 1), sent, sent_wanted, least_of_all)
                self.hold_against((2, 2), sent, sent_wanted + "\r", least_of_all)

    def test_slow_ones_agree(self):
        chance = random.Random(8)
        for turn in range(40):
            now, wanted = Model(3, 2), Model(3, 2)
            now.feed(octets(random_sent(chance, 12)))
            wanted.feed(octets(random_sent(chance, 12)))
            self.assertEqual(least_of_all(now, wanted), least_by_layers(now, wanted))

    def test_greatest_screen(self):
        now = "".join(f"\x1b[{row}Habcdefghijkl" for row in range(1, 7))
        wanted = "".join(f"\x1b[{row}Hab\x1b[3{row}mXdef\x1b[mgh" for row in range(1, 7))
        self.hold_against((12, 6), now, wanted, least_by_layers)
        self.hold_against((12, 6), wanted, now, least_by_layers)
        self.hold_against((12, 6), "\x1b[34m", "\x1b[31ma\x1b[32mb\x1b[33mc\x1b[m", least_by_layers)


class InGoodTime(unittest.TestCase):
    def test_60_calls_on_the_greatest_screen(self):
        colours = "".join(f"\x1b[3{colour}mx" for colour in range(1, 8))
        for sent, sent_wanted in (("", ""), ("", colours), (colours, colours), (colours, "\x1b[m"), ("a" * 72, "b" * 72)):
            calls = [("size", 12, 6), ("now", sent), ("wanted", sent_wanted)] + [("least",)] * 57
            began = time.monotonic()
            lines = ask(*calls)
            self.assertLess(time.monotonic() - began, 30)
            self.assertEqual(lines[3:], [lines[3]] * 57)


if __name__ == "__main__":
    unittest.main()
