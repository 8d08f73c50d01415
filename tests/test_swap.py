"""Point 11: now becomes wanted and wanted now, and whether they were unlike in anything."""

import unittest

from tests.helper import ask, counted, octets

FULL = "abcdefgh"

# Bytes for one and for the other, that leave the two unlike in one thing alone.
UNLIKE = {
    "a cell": ("a\b", ""),
    "a cell in the last row": ("\x1b[3;7Ha\x1b[H", "\x1b[3;7Hb\x1b[H"),
    "a cell's colour": ("\x1b[31ma\x1b[m\b", "a\b"),
    "a blank's colour": ("\x1b[31m \x1b[m\b", ""),
    "a wide sign": ("\xc0\r", "\xc1\r"),
    "a row that goes on": (FULL + "i\x1b[H", FULL + "\r\ni\x1b[H"),
    "a last row that goes on": ("\x1b[1;2r\x1b[3H" + FULL + "i", "\x1b[1;2r\x1b[3H" + FULL + "\ri"),
    "the cursor's row": ("\n", ""),
    "the cursor's column": ("\x1b[C", ""),
    "due": (FULL, FULL + "\x1b[C"),
    "the colour": ("\x1b[31m", "\x1b[32m"),
    "the region's top": ("\x1b[2;3r", "\x1b[1;3r"),
    "the region's bottom": ("\x1b[1;2r", ""),
    "the kept row": ("\n\x1b[s\x1b[H", ""),
    "the kept column": ("\x1b[C\x1b[s\x1b[H", ""),
    "which is shown": ("\x1b[47h", ""),
    "what is held": ("\x1b", ""),
    "how much is held": ("\x1b[1", "\x1b["),
    "another number held": ("\x1b[1", "\x1b[2"),
    "the same number held otherwise": ("\x1b[01", "\x1b[1"),
}


def behind_the_other(sent):
    """The same, done with the other screen while the main one is shown at last."""
    return "\x1b[47h" + sent + "\x1b[47l"


class Unlike(unittest.TestCase):
    def check(self, one, two, name):
        self.assertEqual(ask(("now", one), ("wanted", two), ("swap",), ("swap",))[2:], [[1], [1]], name)
        self.assertEqual(ask(("now", two), ("wanted", one), ("swap",))[2], [1], name)
        for same in (one, two):
            self.assertEqual(ask(("now", same), ("wanted", same), ("swap",), ("swap",))[2:], [[0], [0]], name)

    def test_new_ones_are_not(self):
        self.assertEqual(ask(("swap",), ("swap",)), [[0], [0]])
        self.assertEqual(ask(("now", "ab"), ("swap",), ("size", 12, 6), ("swap",))[1:], [[1], [72], [0]])

    def test_in_one_thing_of_the_shown_screen(self):
        for name, (one, two) in UNLIKE.items():
            self.check(one, two, name)

    def test_in_one_thing_of_the_screen_that_is_not_shown(self):
        for name, (one, two) in UNLIKE.items():
            if "held" not in name and name != "which is shown":
                self.check(behind_the_other(one), behind_the_other(two), name)
                self.check(one + "\x1b[47h", two + "\x1b[47h", name)

    def test_nearly_all_of_these_are_like_though(self):
        for name in ("a row that goes on", "a last row that goes on", "the region's top", "the region's bottom",
                     "the kept row", "the kept column", "which is shown", "what is held", "another number held"):
            one, two = UNLIKE[name]
            self.assertEqual(ask(("now", one), ("wanted", two), ("like",), ("swap",))[2:], [[1, 0], [1]], name)
        self.assertEqual(ask(("now", FULL + "\x1b[C"), ("wanted", FULL), ("like",), ("swap",))[2:], [[1, 0], [1]])

    def test_the_screens_themselves_not_what_is_shown(self):
        lines = ask(("now", "ab"), ("wanted", "\x1b[47hab"), ("like",), ("swap",))
        self.assertEqual(lines[2:], [[1, 0], [1]])

    def test_made_the_same_by_other_bytes(self):
        lines = ask(("now", "ab\x1b[31m\x1b[m"), ("wanted", "xb\ra\x1b[C"), ("swap",))
        self.assertEqual(lines[2], [0])
        self.assertEqual(ask(("now", "abc"), ("now", "\x1b[2J\x1b[H"), ("swap",))[2], [0])


class Swapped(unittest.TestCase):
    ab = counted(octets("ab      ")) + counted([0] * 8)
    xyz = counted(octets("xyz     ")) + counted([1] * 3 + [0] * 5)
    beginning = (("now", "ab"), ("wanted", "\x1b[31mxyz"))

    def test_each_is_what_the_other_was(self):
        looks = [("row", 0, 0), ("row", 1, 0), ("cursor", 0), ("cursor", 1)]
        lines = ask(*self.beginning, ("swap",), *looks, ("swap",), *looks)
        self.assertEqual(lines[2:7], [[1], self.xyz, self.ab, [0, 3, 0, 1], [0, 2, 0, 0]])
        self.assertEqual(lines[7:], [[1], self.ab, self.xyz, [0, 2, 0, 0], [0, 3, 0, 1]])

    def test_what_is_done_with_now_is_not_seen_in_wanted(self):
        for swaps in (1, 2, 3):
            lines = ask(*self.beginning, *[("swap",)] * swaps, ("row", 1, 0), ("cursor", 1), ("now", "\x1b[2J\nq"),
                        ("row", 1, 0), ("cursor", 1), ("row", 0, 0))
            self.assertEqual(lines[-3:-1], lines[-6:-4])
            self.assertEqual(lines[-1], counted([32] * 8) + counted([0] * 8))

    def test_what_is_done_with_wanted_is_not_seen_in_now(self):
        for swaps in (1, 2, 3):
            lines = ask(*self.beginning, *[("swap",)] * swaps, ("row", 0, 0), ("cursor", 0), ("wanted", "\x1b[2J\nq"),
                        ("row", 0, 0), ("cursor", 0), ("row", 1, 0))
            self.assertEqual(lines[-3:-1], lines[-6:-4])
            self.assertEqual(lines[-1], counted([32] * 8) + counted([0] * 8))

    def test_when_they_were_the_same(self):
        lines = ask(("now", "ab"), ("wanted", "ab"), ("swap",), ("now", "c"), ("row", 1, 0), ("like",), ("wanted", "cd"),
                    ("like",), ("swap",), ("cursor", 0))
        self.assertEqual(lines[2:], [[0], [0], self.ab, [0, 1], [0], [0, 1], [1], [0, 4, 0, 0]])

    def test_all_that_a_thing_has_goes_along(self):
        sent = "\x1b[2;3rab\x1b[s\x1b[47hxyz\x1b[35m"
        lines = ask(("wanted", sent), ("swap",), ("cursor", 0), ("now", "\x1b[47l"), ("cursor", 0), ("now", "\x1b[H\x1b[u"),
                    ("cursor", 0), ("now", "\x1b[3Hq\n"), ("row", 0, 1))
        self.assertEqual([lines[2], lines[4], lines[6]], [[0, 3, 0, 5], [0, 2, 0, 0], [0, 2, 0, 0]])
        self.assertEqual(lines[8], counted(octets("q       ")) + counted([0] * 8))

    def test_ways_back(self):
        lines = ask(("now", "abc"), ("wanted", "abX"), ("least",), ("swap",), ("least",), ("take",), ("swap",), ("row", 1, 0))
        self.assertEqual(lines[2][:3], [2, 8, 88])
        self.assertEqual(lines[4][:3], [2, 8, 99])
        self.assertEqual(lines[5:7], [[2, 1], [0]])
        self.assertEqual(lines[7], counted(octets("abc     ")) + counted([0] * 8))

    def test_what_is_held_goes_along(self):
        lines = ask(("now", "\x1b[3"), ("swap",), ("wanted", "6m"), ("cursor", 1), ("cursor", 0))
        self.assertEqual(lines[2:], [[0], [0, 0, 0, 6], [0, 0, 0, 0]])
        lines = ask(("wanted", "\x1b[3"), ("swap",), ("now", "6m"), ("cursor", 1), ("cursor", 0))
        self.assertEqual(lines[2:], [[0], [0, 0, 0, 0], [0, 0, 0, 6]])

    def test_ready_or_not(self):
        asked = [("least",), ("quick",), ("choose", [0] * 24), ("take",), ("try", "")]
        none = [[0, 24] + [0] * 24, [0], [1, 0], [0, 1], [1, 0, 0]]
        self.assertEqual(ask(("now", "\x1b["), *asked)[1:], [[-8]] * 5)
        self.assertEqual(ask(("now", "\x1b["), ("swap",), *asked)[2:], none)
        self.assertEqual(ask(("wanted", "\x1b["), *asked)[1:], none)
        self.assertEqual(ask(("wanted", "\x1b["), ("swap",), *asked)[2:], [[-8]] * 5)
        self.assertEqual(ask(("wanted", "\x1b["), ("swap",), ("swap",), *asked)[3:], none)

    def test_not_refused_while_something_is_held(self):
        self.assertEqual(ask(("now", "\x1b["), ("wanted", "\x1b["), ("swap",))[2], [0])

    def test_the_size_stays(self):
        lines = ask(("size", 3, 2), ("swap",), ("row", 0, 1), ("row", 0, 2), ("way", 0, 3, 0, 0, 0), ("way", 1, 2, 1, 1, 2))
        self.assertEqual(lines[2:], [[3, 32, 32, 32, 3, 0, 0, 0], [-2], [-2], [3, 27, 91, 67]])


if __name__ == "__main__":
    unittest.main()
