"""Point 8: which rows of choices are let, the bytes that they tell, and the refusals."""

import itertools
import random
import unittest

from tests.helper import (
    GREAT, Model, all_rows_of_choices, ask, counted, digits, octets, parted, random_sent, sent_text,
)


def choose(size, sent, sent_wanted, choices):
    """The bytes as a text; or the answer as it is, where it tells none."""
    line = ask(("size",) + size, ("now", sent), ("wanted", sent_wanted), ("choose", digits(choices)))[3]
    if line[0] != 1:
        return line
    assert line[1] == len(line) - 2
    return sent_text(line[2:])


class Chosen(unittest.TestCase):
    def check(self, size, sent, sent_wanted, choices, expected):
        self.assertEqual(choose(size, sent, sent_wanted, choices), expected, (sent, sent_wanted, choices))

    def let(self, size, sent, sent_wanted, *rows):
        for choices in rows:
            self.assertIsInstance(choose(size, sent, sent_wanted, choices), str, (sent, sent_wanted, choices))

    def not_let(self, size, sent, sent_wanted, *rows):
        for choices in rows:
            self.check(size, sent, sent_wanted, choices, [0])

    def test_kept_as_wanted(self):
        self.check((3, 1), "ab\r", "ab\r", "000", "")
        self.check((3, 1), "ab\r", "ab", "000", "\x1b[2C")
        self.check((4, 1), "\xc0\r", "\xc0\r", "000", "")

    def test_kept_not_as_wanted(self):
        self.not_let((3, 1), "ab\r", "aX\r", "000", "200", "002", "202")
        self.not_let((3, 1), "", "a", "000", "022")
        self.not_let((3, 1), "a", "", "000", "011", "010")

    def test_kept_in_another_colour(self):
        self.not_let((3, 1), "\x1b[31ma", "a\x1b[31m", "000", "022")
        self.not_let((3, 1), "\x1b[31m ", " \x1b[31m", "000", "022")
        self.not_let((3, 1), "", "\x1b[31m \x1b[m\r", "000")
        self.let((3, 1), "", "\x1b[31m \x1b[m\r", "200")
        self.not_let((4, 1), "\x1b[31m\xc0", "\xc0\x1b[31m", "000", "021")

    def test_kept_whole_for_half(self):
        self.not_let((4, 1), "\xc0\r", "\xc1\r", "000")
        self.not_let((4, 1), "\xc0\r", "ab\r", "0000", "2000", "0200")
        self.not_let((4, 1), "\xc0\r", "", "0000", "0200", "0100")
        self.not_let((4, 1), "  \r", "\xc0", "000")
        self.not_let((5, 1), "a\xc0\xc0\r", "\xc0\xc0\r", "000", "200", "020")

    def test_kept_behind_a_left_half_that_was_written_over(self):
        self.check((4, 1), "\xc0\r", "x", "2000", "x")
        self.check((4, 1), "\x1b[31m\xc0\r", "\x1b[31mx", "2000", "x")
        self.check((4, 1), "\xc0\r", "", "2000", " \b")
        self.check((5, 1), "a\xc0\r", "\xc1", "2000", "\xc1")
        self.check((5, 1), "a\xc0b\r", "\xc1 b\r", "2000", "\xc1\r")

    def test_the_blank_by_then_has_no_colour(self):
        self.not_let((4, 1), "\x1b[31m\xc0\r", "\x1b[31mx \b", "2000")
        self.let((4, 1), "\x1b[31m\xc0\r", "\x1b[31mx \b", "2200")

    def test_the_blank_by_then_is_blank_alone(self):
        self.not_let((4, 1), "\xc0\r", "xy", "2000")
        self.not_let((5, 1), "\xc0\xc1\r", "x\xc0", "2000", "0200", "2011")
        self.let((5, 1), "\xc0\xc1\r", "x\xc0", "2200", "2222", "2210")

    def test_a_right_half_is_written_over_as_well(self):
        self.let((4, 1), "\xc0\r", "x", "2000", "2200", "2100", "2210", "2221")

    def test_kept_behind_an_erased_end(self):
        self.check((5, 1), "abcde\r", "a", "01000", "\x1b[C\x1b[K")
        self.check((5, 1), "abcde\r", "", "10000", "\x1b[K")
        self.check((5, 1), "a\xc0\xc1\r", "a", "01000", "\x1b[C\x1b[K")
        self.check((5, 1), "ab\x1b[31mcd\x1b[m\r", "ab", "00100", "\x1b[2C\x1b[K")

    def test_erased(self):
        self.check((5, 1), "", "", "00001", "\x1b[4C\x1b[K\r")
        self.check((5, 1), "", "", "10000", "\x1b[K")
        self.check((5, 1), "abc", "abc", "00010", "\x1b[K")
        self.check((3, 1), "abc", "", "221", "\r  \x1b[K\r")

    def test_erased_where_a_cell_behind_is_not_wanted_blank(self):
        self.not_let((4, 1), "", "   x\r", "1000", "0100", "0010", "0001", "0021")
        self.not_let((4, 1), "   x\r", "   x\r", "1000", "0001")
        self.not_let((4, 1), "", "  \xc0\r", "102", "012")
        self.not_let((4, 1), "\xc0\r", "\xc0\r", "100")
        self.let((4, 1), "", "  x \r", "0021", "0020")

    def test_erased_where_a_cell_is_blank_in_another_colour(self):
        wanted = "  \x1b[31m \x1b[m\r"
        self.not_let((4, 1), "", wanted, "1000", "0100", "0010")
        self.not_let((4, 1), wanted, wanted, "1000", "0100", "0010")
        self.let((4, 1), "", wanted, "0020", "0021")

    def test_erased_with_another_colour_set(self):
        self.check((3, 1), "abc\x1b[31m", "\x1b[31m", "100", "\r\x1b[K")
        self.check((3, 1), "abc\x1b[31m", "", "100", "\r\x1b[K\x1b[m")

    def test_erased_or_written_behind_an_erased_end(self):
        self.not_let((4, 1), "abcd", "", "1100", "1010", "1001", "1200", "1020", "1002", "2112", "2121", "2011")
        self.not_let((4, 1), "", "", "1100", "0101", "0011", "1200", "0102", "0012")

    def test_in_the_next_row_nothing_is_erased_yet(self):
        size, sent, wanted = (2, 2), "ab\x1b[2Hcd\x1b[H", "a\x1b[2Hc\x1b[H"
        self.not_let(size, sent, wanted, "0100", "0110", "0120", "2000", "0001")
        self.check(size, sent, wanted, "0101", "\x1b[C\x1b[K\x1b[B\x1b[K\x1b[H")
        self.check(size, sent, wanted, "0102", "\x1b[C\x1b[K\x1b[B \x1b[H")
        self.check(size, sent, wanted, "0121", "\x1b[C\x1b[K\x1b[B\bc\x1b[K\x1b[H")
        self.let((2, 2), "", "", "1010", "1000", "1001", "0110", "0101", "1022", "1002")
        self.not_let((2, 2), "\x1b[2Hab", "", "1000", "0100", "1002", "1001")

    def test_written(self):
        self.check((3, 1), "abc\r", "abc\r", "222", "abc\r")
        self.check((3, 1), "abc\r", "abc\r", "020", "\x1b[Cb\r")
        self.check((4, 1), "", "\x1b[31ma\x1b[mb\x1b[32m", "2222", "\x1b[31ma\x1b[mb  \b\x1b[32m")
        self.check((4, 1), "\x1b[31m", "\x1b[31ma\x1b[33mb\x1b[31m\r", "2200", "a\x1b[33mb\r\x1b[31m")
        self.check((4, 1), "", "\x1b[37m\xdf\x1b[m", "222", "\x1b[37m\xdf\x1b[m  \b")

    def test_behind_the_last_column(self):
        self.check((2, 2), "", "abcd", "2222", "ab\x1b[B\bcd\x1b[C")
        self.check((2, 2), "", "\xc0\xc1\x1b[H", "22", "\xc0\x1b[B\b\xc1\x1b[H")
        self.check((2, 2), "ab", "ab", "0000", "\x1b[C")
        self.check((2, 2), "ab", "ab", "0200", "\x1b[Cb\x1b[C")

    def test_the_region_is_no_matter(self):
        self.check((2, 4), "\x1b[2;3r\x1b[3H", "\x1b[3Hab\x1b[4Hc", "00002220", "ab\x1b[B\bc")

    def test_of_the_shown_screens(self):
        lines = ask(("size", 3, 1), ("now", "abc\x1b[47hxy"), ("wanted", "zz\x1b[47hxyz"), ("choose", [0, 0, 2]),
                    ("choose", [0, 0, 0]))
        self.assertEqual(lines[3:], [[1, 4] + octets("z\x1b[C"), [0]])


class AllRows(unittest.TestCase):
    """Every row of choices there is, held against those that the second program finds let."""

    def hold_against(self, size, sent, sent_wanted):
        now, wanted = Model(*size), Model(*size)
        now.feed(octets(sent))
        wanted.feed(octets(sent_wanted))
        found = {choices: [1] + counted(octets(text)) for choices, text in all_rows_of_choices(now, wanted)}
        units = len(next(iter(found)))
        rows = list(itertools.product((0, 1, 2), repeat=units))
        for first in range(0, len(rows), 57):
            some = rows[first:first + 57]
            lines = ask(("size",) + size, ("now", sent), ("wanted", sent_wanted), *[("choose", row) for row in some])
            self.assertEqual(lines[3:], [found.get(row, [0]) for row in some], (size, sent, sent_wanted))

    def test_pairs_of_short_rows(self):
        signs = ["a", " ", "\xc0", "\x1b[31ma", "\x1b[31m ", "\x1b[31m\xc0"]
        rows = [one + two + "\x1b[m" for one in signs for two in signs]
        for sent in rows:
            for sent_wanted in rows:
                self.hold_against((3, 1), sent, sent_wanted)

    def test_random_ones(self):
        chance = random.Random(11)
        for turn in range(150):
            size = chance.choice([(2, 1), (2, 2), (3, 2), (2, 3), (4, 1), (5, 1), (6, 1)])
            sent = random_sent(chance, 14) + "\x07"
            sent_wanted = sent + random_sent(chance, 4) if turn % 2 else random_sent(chance, 14)
            self.hold_against(size, sent, sent_wanted)


class OwnChoices(unittest.TestCase):
    def test_of_the_least_row_and_of_the_quick_row(self):
        chance = random.Random(12)
        for turn in range(150):
            size = ("size", chance.randrange(2, 13), chance.randrange(1, 7))
            beginning = [size, ("now", random_sent(chance, 30) + "\x07"), ("wanted", random_sent(chance, 30))]
            lines = ask(*beginning, ("least",), ("quick",))
            row, choices = parted(lines[3])
            quick = quick_choices(ask, beginning, len(choices))
            chosen = ask(*beginning, ("choose", choices), ("choose", quick))[3:]
            self.assertEqual(chosen, [[1] + counted(row), [1] + lines[4]], beginning)


def quick_choices(asked, beginning, units):
    """Whatever may be kept is kept: found one unit at a time, all behind it written."""
    choices = [2] * units
    for number in range(units):
        choices[number] = 0
        if asked(*beginning, ("choose", choices))[3] == [0]:
            choices[number] = 2
    return choices


class Refused(unittest.TestCase):
    def test_as_many_as_units(self):
        for sent_wanted, units in (("", 12), ("\xc0", 11), ("\xc0\xc1\xc2\x1b[2H\xc3\xc4\xc5", 6), ("abcdefg", 12)):
            for count in (0, 1, units - 1, units, units + 1, 72):
                line = ask(("size", 6, 2), ("wanted", sent_wanted), ("choose", [2] * count))[2]
                self.assertEqual(line == [-7], count != units, (sent_wanted, count))
        self.assertEqual(ask(("size", 12, 6), ("choose", [0] * 72), ("choose", [0] * 71))[1:], [[1, 0], [-7]])

    def test_units_are_those_of_wanted(self):
        lines = ask(("size", 4, 1), ("now", "\xc0\xc1\r"), ("choose", [2] * 2), ("choose", [2] * 4))
        self.assertEqual(lines[2:], [[-7], [1, 5] + octets("    \r")])

    def test_choices_that_are_none(self):
        for choice in (3, 4, 48, -1, -2, 255, GREAT, -GREAT, GREAT - 1, 1 - GREAT):
            for place in range(3):
                choices = [2, 2, 2]
                choices[place] = choice
                self.assertEqual(ask(("size", 3, 1), ("choose", choices))[1], [-7], choices)

    def test_refused_before_it_is_looked_at_which_are_let(self):
        lines = ask(("size", 3, 1), ("now", "abc"), ("choose", [0, 0, 0]), ("choose", [0, 0, 3]), ("choose", [0, 0]))
        self.assertEqual(lines[2:], [[0], [-7], [-7]])

    def test_something_is_held(self):
        for held in ("\x1b", "\x1b[", "\x1b[3", "\x1b[1;2"):
            rows = ([0] * 24, [0] * 23, [0] * 25, [], [7] * 24, [GREAT], [2] + [0] * 23)
            lines = ask(("now", held), *[("choose", row) for row in rows], ("now", "\x07"), ("choose", [0] * 24))
            self.assertEqual(lines[1:8], [[-8]] * 7)
            self.assertEqual(lines[9], [1, 0])

    def test_held_by_wanted_is_no_matter(self):
        self.assertEqual(ask(("wanted", "\x1b[3"), ("choose", [0] * 24), ("choose", []))[1:], [[1, 0], [-7]])

    def test_changes_nothing(self):
        beginning = [("size", 3, 2), ("now", "abcd"), ("wanted", "aXcd\x1b[31m\x1b[4")]
        chosen = [("choose", digits(row)) for row in ("222222", "020000", "000000", "020001", "02", "020003")]
        behind = [("like",), ("row", 0, 0), ("row", 1, 0), ("cursor", 0), ("cursor", 1), ("wanted", "m"), ("least",),
                  ("swap",), ("cursor", 0)]
        self.assertEqual(ask(*beginning, *chosen, *behind)[9:], ask(*beginning, *behind)[3:])
        self.assertEqual([line[0] for line in ask(*beginning, *chosen)[3:]], [1, 1, 0, 1, -7, -7])


if __name__ == "__main__":
    unittest.main()
