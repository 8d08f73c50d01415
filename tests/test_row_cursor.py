"""Points 12 and 13: what a row shows, where the cursor is, and the refusals."""

import unittest

from tests.helper import GREAT, ask, counted, digits, octets


def row(size, sent, r):
    """A row of now: its signs as bytes, its colours as a text."""
    return ask(("size",) + size, ("now", sent), ("row", 0, r))[2]


class Row(unittest.TestCase):
    def check(self, size, sent, r, signs, colours):
        self.assertEqual(row(size, sent, r), counted(octets(signs)) + counted(digits(colours)), (sent, r))

    def test_a_new_one(self):
        for which in (0, 1):
            for r in range(3):
                self.assertEqual(ask(("row", which, r))[0], [8] + [32] * 8 + [8] + [0] * 8)
        self.check((2, 1), "", 0, "  ", "00")
        self.check((12, 6), "", 5, " " * 12, "0" * 12)

    def test_signs_and_colours(self):
        self.check((4, 2), "a\x1b[31mb\x1b[37m \x1b[m ", 0, "ab  ", "0170")
        self.check((4, 2), "abcd\x1b[32mef", 1, "ef  ", "2200")
        self.check((4, 2), "\x1b[31mabcd\x1b[;2H\x1b[K", 0, "a   ", "1000")

    def test_a_wide_sign_is_told_once_and_its_colour_twice(self):
        self.check((4, 1), "\xc0", 0, "\xc0  ", "0000")
        self.check((4, 1), "\x1b[33m\xc0\x1b[34ma", 0, "\xc0a ", "3340")
        self.check((5, 1), "a\x1b[36m\xdf\x1b[31m\xc0", 0, "a\xdf\xc0", "06611")
        self.check((2, 1), "\x1b[35m\xc8", 0, "\xc8", "55")
        self.check((12, 1), "\xc0" * 6, 0, "\xc0" * 6, "0" * 12)

    def test_a_half_that_was_parted_is_a_blank(self):
        self.check((4, 1), "\x1b[33m\xc0\rx", 0, "x   ", "3000")
        self.check((4, 1), "\x1b[33m\xc0\bx", 0, " x  ", "0300")
        self.check((3, 1), "\x1b[33ma\xc0\r\x1b[@", 0, " a ", "030")

    def test_each_row(self):
        sent = "abc\x1b[2Hdef\x1b[3Hghi"
        for r, signs in enumerate(("abc", "def", "ghi")):
            self.check((3, 3), sent, r, signs, "000")

    def test_of_now_and_of_wanted(self):
        lines = ask(("size", 2, 1), ("now", "ab"), ("wanted", "\x1b[31mx"), ("row", 0, 0), ("row", 1, 0))
        self.assertEqual(lines[3:], [[2, 97, 98, 2, 0, 0], [2, 120, 32, 2, 1, 0]])

    def test_of_the_shown_screen(self):
        lines = ask(("size", 2, 1), ("now", "ab\x1b[47hx"), ("row", 0, 0), ("now", "\x1b[47l"), ("row", 0, 0),
                    ("wanted", "\x1b[47hyz\x1b[47l"), ("row", 1, 0), ("wanted", "\x1b[47h"), ("row", 1, 0))
        self.assertEqual([lines[2], lines[4]], [[2, 120, 32, 2, 0, 0], [2, 97, 98, 2, 0, 0]])
        self.assertEqual([lines[6], lines[8]], [[2, 32, 32, 2, 0, 0], [2, 121, 122, 2, 0, 0]])

    def test_answered_while_something_is_held(self):
        lines = ask(("size", 2, 1), ("now", "ab\x1b["), ("row", 0, 0), ("now", "31m"), ("cursor", 0))
        self.assertEqual(lines[2:], [[2, 97, 98, 2, 0, 0], [0], [0, 1, 1, 1]])

    def test_which(self):
        for which in (-1, 2, 3, 12, GREAT, -GREAT):
            self.assertEqual(ask(("row", which, 0)), [[-3]], which)

    def test_no_such_row(self):
        for r in (-1, 3, 4, GREAT, -GREAT):
            for which in (0, 1):
                self.assertEqual(ask(("row", which, r)), [[-2]], r)
        lines = ask(("size", 12, 6), ("row", 0, 5), ("row", 0, 6), ("size", 12, 1), ("row", 1, 0), ("row", 1, 1))
        self.assertEqual([lines[2], lines[5]], [[-2], [-2]])
        self.assertEqual([lines[1][0], lines[4][0]], [12, 12])

    def test_which_is_looked_at_first(self):
        for which in (-1, 2, GREAT, -GREAT):
            for r in (-1, 3, GREAT, -GREAT):
                self.assertEqual(ask(("row", which, r)), [[-3]], (which, r))

    def test_the_numbers_are_which_and_then_r(self):
        self.assertEqual(ask(("row", 2, 0), ("row", 0, 2), ("row", 1, 3))[0::2], [[-3], [-2]])
        lines = ask(("now", "\na"), ("wanted", "b"), ("row", 0, 1), ("row", 1, 0))
        self.assertEqual([lines[2][1], lines[3][1]], [97, 98])


class Cursor(unittest.TestCase):
    def test_row_column_due_and_colour(self):
        lines = ask(("size", 5, 4), ("now", "\n\n\x1b[34mab"), ("wanted", "\nabcde\x1b[37m"), ("cursor", 0), ("cursor", 1))
        self.assertEqual(lines[3:], [[2, 2, 0, 4], [1, 4, 1, 7]])

    def test_the_smallest_and_the_greatest(self):
        self.assertEqual(ask(("size", 2, 1), ("now", "ab"), ("cursor", 0))[2], [0, 1, 1, 0])
        self.assertEqual(ask(("size", 12, 6), ("now", "\x1b[99;99Hb"), ("cursor", 0))[2], [5, 11, 1, 0])

    def test_of_the_shown_screen(self):
        lines = ask(("wanted", "ab\x1b[31m\x1b[47h\n\x1b[32m"), ("cursor", 1), ("wanted", "\x1b[47l"), ("cursor", 1),
                    ("cursor", 0))
        self.assertEqual([lines[1], lines[3], lines[4]], [[1, 0, 0, 2], [0, 2, 0, 1], [0, 0, 0, 0]])

    def test_which(self):
        for which in (-1, 2, 3, GREAT, -GREAT):
            self.assertEqual(ask(("cursor", which)), [[-3]], which)

    def test_behind_take_and_swap(self):
        lines = ask(("wanted", "ab\x1b[31m\x1b[2H"), ("take",), ("cursor", 0), ("now", "c"), ("swap",), ("cursor", 0),
                    ("cursor", 1))
        self.assertEqual([lines[2]] + lines[5:], [[1, 0, 0, 1], [1, 0, 0, 1], [1, 1, 0, 1]])


class ChangeNothing(unittest.TestCase):
    def test_what_is_asked_behind(self):
        sent = "ab\x1b[31m\xc0\x1b[2;3r\x1b[47hxyz\x1b[3"
        looks = [("row", 0, 0), ("row", 1, 2), ("row", 5, 0), ("row", 0, 3), ("cursor", 0), ("cursor", 1), ("cursor", 2)]
        lines = ask(("now", sent), ("wanted", sent), *looks, ("swap",), *looks, ("now", "6m"), ("swap",))
        self.assertEqual(lines[2:9], lines[10:17])
        self.assertEqual([lines[9], lines[17], lines[18]], [[0], [0], [1]])


if __name__ == "__main__":
    unittest.main()
