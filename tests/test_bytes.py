"""Points 2 and 3: what each byte does, wrapping, wide signs and their halves, and going on."""

import unittest

from tests.helper import cursor_behind, shows
from leastsigns.terminal import Terminal


def screen_behind(size, sent):
    terminal = Terminal(*size)
    terminal.feed([ord(sign) for sign in sent])
    return terminal.shown()


class Narrow(unittest.TestCase):
    def test_from_32_to_126(self):
        for octet in (32, 33, 65, 91, 126):
            shows(self, (3, 1), [octet], [chr(octet)])
            self.assertEqual(cursor_behind((3, 1), [octet]), [0, 1, 0, 0])

    def test_a_row_is_due_in_the_last_column(self):
        self.assertEqual(cursor_behind((3, 2), "ab"), [0, 2, 0, 0])
        self.assertEqual(cursor_behind((3, 2), "abc"), [0, 2, 1, 0])

    def test_wrapped_when_due(self):
        shows(self, (3, 2), "abcd", ["abc", "d"])
        self.assertEqual(cursor_behind((3, 2), "abcd"), [1, 1, 0, 0])

    def test_wrapped_at_the_bottom(self):
        shows(self, (3, 2), "abcdefg", ["def", "g"])
        self.assertEqual(cursor_behind((3, 2), "abcdefg"), [1, 1, 0, 0])

    def test_one_row_alone(self):
        shows(self, (2, 1), "abc", ["c"])
        self.assertEqual(cursor_behind((2, 1), "abc"), [0, 1, 0, 0])

    def test_with_the_colour(self):
        shows(self, (4, 1), "a\x1b[33mb\x1b[mc", ["abc"], ["030"])
        shows(self, (4, 1), "\x1b[33m  ", ["  "], ["33"])


class Wide(unittest.TestCase):
    def test_from_192_to_223(self):
        for octet in (192, 200, 223):
            shows(self, (4, 1), [octet, 97], [chr(octet) + "a"])
            self.assertEqual(cursor_behind((4, 1), [octet]), [0, 2, 0, 0])

    def test_due_behind_the_last_two(self):
        self.assertEqual(cursor_behind((4, 1), "ab\xc0"), [0, 3, 1, 0])
        self.assertEqual(cursor_behind((2, 1), "\xc0"), [0, 1, 1, 0])
        self.assertEqual(cursor_behind((5, 1), "ab\xc0"), [0, 4, 0, 0])

    def test_wrapped_in_the_last_column(self):
        shows(self, (3, 2), "ab\xc0", ["ab", "\xc0"])
        self.assertEqual(cursor_behind((3, 2), "ab\xc0"), [1, 2, 0, 0])

    def test_what_stood_in_the_last_column_stays(self):
        shows(self, (3, 2), "abc\x1b[;3H\xc0", ["abc", "\xc0"])

    def test_wrapped_when_due(self):
        shows(self, (2, 2), "\xc0\xc1", ["\xc0", "\xc1"])
        shows(self, (2, 1), "\xc0\xc1", ["\xc1"])

    def test_halves_that_become_blanks(self):
        shows(self, (4, 1), "\xc0\rx", ["x"])
        shows(self, (4, 1), "\xc0\bx", [" x"])
        shows(self, (4, 1), "\xc0\xc1\r\x1b[C\xc2", [" \xc2"])
        shows(self, (6, 1), "\xc0\xc1\xc2\r\x1b[3C\xc3", ["\xc0 \xc3 "])

    def test_blanks_of_halves_have_no_colour(self):
        shows(self, (4, 1), "\x1b[31m\xc0\rx", ["x "], ["10"])
        shows(self, (4, 1), "\x1b[31m\xc0\bx", [" x"], ["01"])

    def test_with_the_colour(self):
        shows(self, (4, 1), "\x1b[31m\xc0", ["\xc0"], ["1"])


class Others(unittest.TestCase):
    def test_back(self):
        self.assertEqual(cursor_behind((4, 2), "ab\b"), [0, 1, 0, 0])
        self.assertEqual(cursor_behind((4, 2), "\b"), [0, 0, 0, 0])
        self.assertEqual(cursor_behind((4, 2), "\n\b"), [1, 0, 0, 0])
        self.assertEqual(cursor_behind((4, 2), "abcd\b"), [0, 2, 0, 0])

    def test_tab(self):
        for before, behind in ((0, 4), (3, 4), (4, 8), (7, 8), (8, 10), (10, 10)):
            self.assertEqual(cursor_behind((11, 2), f"\n\x1b[2;{before + 1}H\t"), [1, behind, 0, 0])
        self.assertEqual(cursor_behind((3, 2), "\t"), [0, 2, 0, 0])
        self.assertEqual(cursor_behind((4, 2), "abcd\t"), [0, 3, 0, 0])

    def test_feed(self):
        self.assertEqual(cursor_behind((4, 2), "ab\n"), [1, 2, 0, 0])
        self.assertEqual(cursor_behind((4, 2), "abcd\n"), [1, 3, 0, 0])
        shows(self, (4, 2), "ab\ncd\ne", ["  cd", "   e"])
        shows(self, (4, 2), "ab\n\n\n", [])

    def test_return(self):
        self.assertEqual(cursor_behind((4, 2), "\nab\r"), [1, 0, 0, 0])
        self.assertEqual(cursor_behind((4, 2), "abcd\r"), [0, 0, 0, 0])

    def test_nothing(self):
        for octet in list(range(0, 8)) + [11, 12, 14, 26, 28, 31, 127, 128, 155, 191, 224, 255]:
            self.assertEqual(cursor_behind((4, 2), [97, octet, 98]), [0, 2, 0, 0], octet)
            shows(self, (4, 2), [97, octet, 98], ["ab"])
            self.assertEqual(cursor_behind((2, 2), [97, 98, octet]), [0, 1, 1, 0], octet)


class Down(unittest.TestCase):
    rows = "\x1b[Haa\x1b[2Hbb\x1b[3Hcc\x1b[4Hdd"

    def test_at_the_regions_bottom_its_rows_move(self):
        shows(self, (3, 4), self.rows + "\x1b[2;3r\x1b[3;3H\n", ["aa", "cc", "", "dd"])
        self.assertEqual(cursor_behind((3, 4), self.rows + "\x1b[2;3r\x1b[3;3H\n"), [2, 2, 0, 0])

    def test_above_and_below_the_bottom(self):
        sent = self.rows + "\x1b[2;3r"
        for row, behind in ((1, 1), (2, 2), (4, 3)):
            shows(self, (3, 4), sent + f"\x1b[{row}H\n", ["aa", "bb", "cc", "dd"])
            self.assertEqual(cursor_behind((3, 4), sent + f"\x1b[{row}H\n")[0], behind)

    def test_wrapping_below_the_region(self):
        shows(self, (3, 4), self.rows + "\x1b[2;3r\x1b[4Hxyzw", ["aa", "bb", "cc", "wyz"])
        shows(self, (3, 4), self.rows + "\x1b[2;3r\x1b[3Hxyzw", ["aa", "xyz", "w", "dd"])


class GoingOn(unittest.TestCase):
    def goes_on(self, size, sent, expected):
        self.assertEqual(screen_behind(size, sent).goes_on, expected)

    def test_wrapping(self):
        self.goes_on((2, 3), "ab", [False, False, False])
        self.goes_on((2, 3), "abc", [True, False, False])
        self.goes_on((2, 3), "a\xc0", [True, False, False])
        self.goes_on((2, 3), "\xc0", [False, False, False])
        self.goes_on((3, 3), "ab\xc0", [True, False, False])
        self.goes_on((2, 3), "abcdefg", [True, True, False])
        self.goes_on((2, 1), "abc", [False])

    def test_feed(self):
        self.goes_on((2, 3), "abc\x1b[H\n", [False, False, False])
        self.goes_on((2, 3), "abcde\x1b[3H\n", [True, False, False])

    def test_the_row_above_the_region(self):
        self.goes_on((2, 3), "abc\x1b[2;3r\x1b[3H\n", [False, False, False])
        self.goes_on((2, 3), "abc\x1b[2;3r\x1b[2H\n", [True, False, False])

    def test_erasing(self):
        filled = "abcde\x1b[2H"
        self.goes_on((2, 3), filled + "\x1b[K", [True, False, False])
        self.goes_on((2, 3), filled + "\x1b[1K", [True, True, False])
        self.goes_on((2, 3), filled + "\x1b[C\x1b[1K", [True, False, False])
        self.goes_on((2, 3), filled + "\x1b[2K", [True, False, False])
        self.goes_on((2, 3), filled + "\x1b[J", [True, False, False])
        self.goes_on((2, 3), filled + "\x1b[1J", [False, True, False])
        self.goes_on((2, 3), filled + "\x1b[2J", [False, False, False])
        self.goes_on((2, 3), filled + "\x1b[3K\x1b[3J", [True, True, False])
        self.goes_on((2, 3), filled + "\x1b[A\x1b[J", [False, False, False])

    def test_rows_put_in(self):
        filled = "abcdefg"
        self.goes_on((2, 4), filled, [True, True, True, False])
        self.goes_on((2, 4), filled + "\x1b[2H\x1b[L", [False, False, True, False])
        self.goes_on((2, 4), filled + "\x1b[H\x1b[L", [False, True, True, False])
        self.goes_on((2, 4), filled + "\x1b[2H\x1b[0L", [False, True, True, False])
        self.goes_on((2, 4), filled + "\x1b[2;3r\x1b[2H\x1b[0L", [False, True, False, False])
        self.goes_on((2, 4), filled + "\x1b[2;3r\x1b[L", [True, True, True, False])

    def test_rows_taken_out(self):
        filled = "abcdefg"
        self.goes_on((2, 4), filled + "\x1b[2H\x1b[M", [False, True, False, False])
        self.goes_on((2, 4), filled + "\x1b[H\x1b[M", [True, True, False, False])
        self.goes_on((2, 4), filled + "\x1b[2;3r\x1b[2H\x1b[M", [False, False, False, False])
        self.goes_on((2, 4), filled + "\x1b[2;3r\x1b[2H\x1b[0M", [False, True, False, False])
        self.goes_on((2, 4), filled + "\x1b[2;3r\x1b[M", [True, True, True, False])

    def test_cells_put_in_and_taken_out(self):
        self.goes_on((2, 2), "abc\x1b[H\x1b[@", [True, False])
        self.goes_on((2, 2), "abc\x1b[H\x1b[P", [False, False])
        self.goes_on((2, 2), "abc\x1b[H\x1b[0P", [False, False])


if __name__ == "__main__":
    unittest.main()
