"""Points 9 and 10: the least row is sent to now, or bytes are tried without a change."""

import random
import unittest

from tests.helper import ask, counted, octets, parted, random_sent

FULL = "abcdefgh"


def shown(text, colours=None):
    """What row answers for these signs (with blanks behind them, on 8 columns)."""
    signs = octets(text.ljust(8))
    return counted(signs) + counted([int(one) for one in (colours or "").ljust(8, "0")])


class Take(unittest.TestCase):
    def test_answers_how_many_bytes_and_whether_now_is_like(self):
        self.assertEqual(ask(("wanted", "abc"), ("take",))[1], [3, 1])
        self.assertEqual(ask(("wanted", "\x1b[2;3H"), ("take",))[1], [5, 1])
        self.assertEqual(ask(("wanted", "\x1b[31m"), ("take",))[1], [5, 1])
        self.assertEqual(ask(("now", FULL), ("take",))[1], [4, 1])

    def test_like_already(self):
        self.assertEqual(ask(("take",)), [[0, 1]])
        self.assertEqual(ask(("now", "ab"), ("wanted", "ab"), ("take",), ("take",))[2:], [[0, 1], [0, 1]])
        self.assertEqual(ask(("now", "ab\x1b[2;3r\x1b[;3H"), ("wanted", "ab"), ("take",))[2], [0, 1])

    def test_a_row_is_due_now(self):
        lines = ask(("now", FULL), ("wanted", FULL), ("like",), ("take",), ("like",), ("cursor", 0), ("take",))
        self.assertEqual(lines[2:], [[0, 0], [2, 1], [1, 0], [0, 7, 0, 0], [0, 1]])
        coloured = "abcdef\x1b[31mg\x1b[mh"
        lines = ask(("now", coloured), ("wanted", coloured), ("take",), ("cursor", 0))
        self.assertEqual(lines[2:], [[3, 1], [0, 7, 0, 0]])

    def test_a_row_is_due_in_wanted_alone(self):
        lines = ask(("now", FULL + "\x1b[C"), ("wanted", FULL), ("take",), ("cursor", 0), ("cursor", 1))
        self.assertEqual(lines[2:], [[0, 1], [0, 7, 0, 0], [0, 7, 1, 0]])

    def test_written_up_to_the_last_column_it_is_not_due(self):
        lines = ask(("wanted", FULL), ("take",), ("cursor", 0), ("cursor", 1), ("swap",))
        self.assertEqual(lines[1:], [[11, 1], [0, 7, 0, 0], [0, 7, 1, 0], [1]])

    def test_now_is_changed_and_wanted_is_not(self):
        lines = ask(("now", "ab"), ("wanted", "x\xc0\x1b[32my\r\n"), ("take",), ("like",), ("row", 0, 0), ("row", 1, 0),
                    ("cursor", 0), ("cursor", 1), ("swap",))
        signs = counted(octets("x\xc0y    ")) + counted([0, 0, 0, 2, 0, 0, 0, 0])
        self.assertEqual(lines[2][1], 1)
        self.assertEqual(lines[3:], [[1, 0], signs, signs, [1, 0, 0, 2], [1, 0, 0, 2], [0]])

    def test_what_is_done_behind_it_is_done_with_now_alone(self):
        lines = ask(("wanted", "ab"), ("take",), ("now", "c"), ("row", 0, 0), ("row", 1, 0), ("cursor", 1))
        self.assertEqual(lines[3:], [shown("abc"), shown("ab"), [0, 2, 0, 0]])

    def test_the_bytes_do_what_they_do_with_going_on(self):
        lines = ask(("now", FULL + "i"), ("wanted", "\x1b[3H"), ("take",), ("swap",))
        self.assertEqual(lines[2:], [[14, 1], [0]])
        lines = ask(("now", FULL + "i\x1b[H"), ("wanted", FULL + "\x1b[H"), ("take",), ("swap",))
        self.assertEqual(lines[2][1], 1)
        self.assertEqual(lines[3], [1])

    def test_the_region_the_kept_place_and_the_other_screen_stay(self):
        lines = ask(("now", "\x1b[47hxy\x1b[47l\x1b[2;3r\x1b[2;2H\x1b[s"), ("wanted", "abc"), ("take",),
                    ("now", "\x1b[u"), ("cursor", 0), ("now", "\x1b[3H\n"), ("row", 0, 0),
                    ("now", "\x1b[47h"), ("row", 0, 0), ("cursor", 0))
        self.assertEqual(lines[4], [1, 1, 0, 0])
        self.assertEqual([lines[6], lines[8], lines[9]], [shown("abc"), shown("xy"), [0, 2, 0, 0]])

    def test_of_the_shown_screens(self):
        lines = ask(("now", "ab\x1b[47h"), ("wanted", "ab"), ("take",), ("row", 0, 0), ("now", "\x1b[47lc"), ("row", 0, 0))
        self.assertEqual(lines[2], [2, 1])
        self.assertEqual([lines[3], lines[5]], [shown("ab"), shown("abc")])

    def test_more_than_400_bytes(self):
        wanted = "".join(f"\x1b[3{1 + place % 7}m" + "x" for place in range(66))
        lines = ask(("size", 12, 6), ("wanted", wanted[:396]), ("wanted", wanted[396:]), ("wanted", "\x1b[H"), ("least",),
                    ("take",), ("like",))
        self.assertGreater(lines[4][0], 400)
        self.assertEqual(lines[5:], [[lines[4][0], 1], [1, 0]])

    def test_refused_while_something_is_held(self):
        for held in ("\x1b", "\x1b[", "\x1b[3", "\x1b[1;2"):
            lines = ask(("now", held), ("wanted", "ab"), ("take",), ("row", 0, 0), ("cursor", 0), ("now", "\x07"),
                        ("take",))
            self.assertEqual(lines[2:5], [[-8], shown(""), [0, 0, 0, 0]])
            self.assertEqual(lines[6], [2, 1])

    def test_what_is_held_stays_held(self):
        self.assertEqual(ask(("now", "\x1b[3"), ("take",), ("now", "5m"), ("cursor", 0))[3], [0, 0, 0, 5])
        lines = ask(("wanted", "ab\x1b[3"), ("take",), ("wanted", "5m"), ("cursor", 1))
        self.assertEqual(lines[1:], [[2, 1], [0], [0, 2, 0, 5]])

    def test_as_many_as_least_told_and_like_whatever_was(self):
        chance = random.Random(21)
        for turn in range(200):
            size = ("size", chance.randrange(2, 13), chance.randrange(1, 7))
            beginning = [size, ("now", random_sent(chance, 30) + "\x07"), ("wanted", random_sent(chance, 30))]
            lines = ask(*beginning, ("least",), ("take",), ("like",), ("take",), ("least",))
            self.assertEqual(lines[4:7], [[lines[3][0], 1], [1, 0], [0, 1]], beginning)
            self.assertEqual(parted(lines[7])[0], [])


class Try(unittest.TestCase):
    def test_answers(self):
        lines = ask(("now", "ab"), ("wanted", "abX"), ("try", "X"), ("try", "Y"), ("try", "abX"), ("try", "\rabX"))
        self.assertEqual(lines[2:], [[1, 1, 1], [0, 1, 1], [0, 3, 1], [1, 4, 1]])

    def test_no_bytes(self):
        self.assertEqual(ask(("try", "")), [[1, 0, 0]])
        self.assertEqual(ask(("now", "a"), ("try", ""))[1], [0, 0, 3])

    def test_400_bytes(self):
        self.assertEqual(ask(("wanted", "a"), ("try", "\b" * 399 + "a"), ("try", "\x00" * 400))[1:],
                         [[1, 400, 1], [0, 400, 1]])

    def test_the_least_row_is_that_of_now_as_it_is(self):
        lines = ask(("wanted", "abcdef"), ("try", "abc"), ("try", "abcdef"), ("try", "\x1b[47h"), ("try", "\x1b[31m"))
        self.assertEqual(lines[1:], [[0, 3, 6], [1, 6, 6], [0, 5, 6], [0, 5, 6]])

    def test_like_looks_at_each_thing(self):
        beginning = (("now", "ab"), ("wanted", "ab\x1b[31m\x1b[2;3H"))
        for sent, fine in (
            ("\x1b[31m\n", 1), ("\n\x1b[31m", 1), ("\n", 0), ("\x1b[31m", 0), ("\x1b[31m\n\b", 0), ("\x1b[31m\n\n", 0),
            ("\x1b[31mc\b\n", 0), ("\x1b[31m \b\n", 0), ("\x1b[31m\n\x1b[s", 1), ("\x1b[1;2r\x1b[31m\x1b[2;3H", 1),
        ):
            self.assertEqual(ask(*beginning, ("try", sent))[2], [fine, len(sent), 8], sent)

    def test_a_row_that_is_due(self):
        lines = ask(("wanted", FULL), ("try", FULL), ("try", FULL + "\x1b[C"), ("now", FULL), ("try", ""),
                    ("try", "\x1b[C"), ("try", "\x1b[m"))
        self.assertEqual([lines[1], lines[2]], [[0, 8, 11], [1, 11, 11]])
        self.assertEqual(lines[4:], [[0, 0, 2], [1, 3, 2], [0, 3, 2]])

    def test_fine_only_if_nothing_is_held_then(self):
        for sent, fine in (
            ("\x1b", 0), ("\x1b[", 0), ("\x1b[1", 0), ("\x1b[12345;7890", 0), ("\x1b\x1b", 0), ("\x1b[m\x1b", 0),
            ("\x1b[m", 1), ("\x1b\x07", 1), ("\x1b[1;2;3;4;5\x00", 1), ("\x1b[7\x1b[m", 1),
        ):
            self.assertEqual(ask(("try", sent))[0], [fine, len(sent), 0], sent)

    def test_the_other_screen(self):
        lines = ask(("now", "ab"), ("try", "\x1b[47h"), ("wanted", "ab"), ("try", "\x1b[47h"), ("try", "\x1b[47hab"),
                    ("try", "\x1b[47h\x1b[47l"))
        self.assertEqual([lines[1]] + lines[3:], [[1, 5, 4], [0, 5, 0], [1, 7, 0], [1, 10, 0]])

    def test_the_kept_place_of_now(self):
        for kept in ("\x1b[3;5H", "\x1b[3H", "\x1b[;5H"):
            lines = ask(("now", kept + "\x1b[s\x1b[2;2H"), ("wanted", kept), ("try", "\x1b[u"), ("wanted", "\x1b[H"),
                        ("try", "\x1b[u"))
            self.assertEqual([lines[2][0], lines[4][0]], [1, 0], kept)
        lines = ask(("now", "\x1b[47h\x1b[2;2H\x1b[s\x1b[H\x1b[47l"), ("wanted", "\x1b[2;2H"), ("try", "\x1b[47h\x1b[u"),
                    ("try", "\x1b[u"))
        self.assertEqual([lines[2][0], lines[3][0]], [1, 0])

    def test_the_region_of_now(self):
        rows = "a\x1b[2Hb\x1b[3Hc\x1b[4Hd"
        for region, bottom, moved in (
            ("", 4, "b\x1b[2Hc\x1b[3Hd"), ("1;3", 3, "b\x1b[2Hc\x1b[4Hd"), ("2;4", 4, "a\x1b[2Hc\x1b[3Hd"),
            ("2;3", 3, "a\x1b[2Hc\x1b[4Hd"),
        ):
            last = f"\x1b[{bottom}H"
            for screen in ("", "\x1b[47h"):
                lines = ask(("size", 3, 4), ("now", screen + rows + f"\x1b[{region}r" + last), ("wanted", moved + last),
                            ("try", "\n"), ("try", "\x1b[r" + last + "\n"))
                self.assertEqual([lines[3][0], lines[4][0]], [1, int(region == "")], region)

    def test_what_wanted_holds_is_no_matter(self):
        self.assertEqual(ask(("wanted", "\x1b["), ("try", ""), ("try", "\x1b["))[1:], [[1, 0, 0], [0, 2, 0]])

    def test_refused_while_something_is_held(self):
        for held in ("\x1b", "\x1b[", "\x1b[3", "\x1b[1;2"):
            for sent in ("", "\x07", "m", "[m", "\x1b"):
                self.assertEqual(ask(("now", held), ("try", sent))[1], [-8])
        self.assertEqual(ask(("now", "\x1b[3"), ("try", "7m"), ("now", "5m"), ("cursor", 0))[2:], [[0], [0, 0, 0, 5]])


CHANGES = {
    "cells": "xyz\x1b[2;3Hw", "colours": "\x1b[33m   ", "wide": "\xc0\xc1", "cursor": "\x1b[3;8H", "colour": "\x1b[36m",
    "region": "\x1b[1;2r", "kept": "\n\x1b[C\x1b[s", "due": "\x1b[;8Hx", "going on": "\x1b[;8Hxy", "gone on": "\x1b[2J",
    "rows": "\x1b[L\x1b[3H\n\x1b[M", "in the row": "\x1b[2@\x1b[3P", "shown": "\x1b[47h", "main": "\x1b[47l",
    "other": "\x1b[47h\x1b[35mxyz\x1b[1;2r\x1b[2;2H\x1b[s\x1b[47l", "held": "\x1b[12", "begun": "\x1b",
    "bottom": "\x1b[3H\n\n\n", "400": "a" * 400, "least": "\b\b\b",
}
BEGINNINGS = (
    "abc", FULL + "ij\x1b[31m", "\x1b[2;3rabc\x1b[34m\x1b[s\xc0", "ab\x1b[47h\x1b[32mxy\x1b[s" + FULL, FULL,
)


class TryChangesNothing(unittest.TestCase):
    def test_now_is_like_a_second_one_in_everything(self):
        for sent in CHANGES.values():
            for beginning in BEGINNINGS:
                lines = ask(("now", beginning), ("wanted", beginning), ("try", sent), ("swap",), ("swap",))
                self.assertEqual(lines[3:], [[0], [0]], (beginning, sent))

    def test_all_that_is_asked_behind_it(self):
        behind = [("like",), ("least",), ("quick",), ("cursor", 0), ("cursor", 1), ("row", 0, 0), ("row", 1, 0),
                  ("row", 0, 1), ("now", "\x1b[u"), ("cursor", 0), ("now", "\x1b[3H\n\x1b[47h"), ("row", 0, 1),
                  ("cursor", 0), ("take",), ("swap",)]
        for sent in CHANGES.values():
            for beginning in BEGINNINGS:
                before = [("now", beginning), ("wanted", "abX")]
                self.assertEqual(ask(*before, ("try", sent), *behind)[3:], ask(*before, *behind)[2:], (beginning, sent))

    def test_tried_again_it_is_the_same(self):
        for sent in CHANGES.values():
            lines = ask(("now", "abc"), ("wanted", "abX"), *[("try", sent)] * 3)
            self.assertEqual(lines[2:], [lines[2]] * 3)

    def test_fine_rows_are_those_that_make_now_like(self):
        chance = random.Random(22)
        for turn in range(150):
            size = ("size", chance.randrange(2, 6), chance.randrange(1, 4))
            sent, more = random_sent(chance, 20) + "\x07", random_sent(chance, 4)
            wanted = sent + more if turn % 2 else sent
            lines = ask(size, ("now", sent), ("wanted", wanted), ("try", more), ("least",), ("now", more), ("like",))
            fine = int(lines[6][0] == 1 and lines[5] == [0])
            self.assertEqual(lines[3], [fine, len(more), lines[4][0]], (size, sent, wanted, more))


if __name__ == "__main__":
    unittest.main()
