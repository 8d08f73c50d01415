"""Points 1 to 4, 7 and 13, and the interface: sizes, answers, refusals and their order."""

import unittest

from tests.helper import GREAT, Unchangeable, ask, flat
from leastsigns.screens import answers


class Size(unittest.TestCase):
    def test_answers_how_many_cells(self):
        self.assertEqual(ask(("size", 2, 1), ("size", 12, 6), ("size", 7, 3)), [[2], [72], [21]])

    def test_refused_beyond_the_edges(self):
        for columns, height in ((1, 1), (13, 1), (2, 0), (2, 7), (0, 0), (-2, 3), (8, -1), (GREAT, 2), (2, -GREAT)):
            self.assertEqual(ask(("size", columns, height)), [[-5]], (columns, height))

    def test_begins_with_8_columns_and_3_rows(self):
        lines = ask(("way", 2, 7, 1, 0, 0), ("way", 3, 0, 0, 0, 0), ("way", 0, 8, 0, 0, 0), ("least",))
        self.assertEqual(lines[0], [3, 27, 91, 72])
        self.assertEqual(lines[1:3], [[-2], [-2]])
        self.assertEqual(lines[3], [0, 24] + [0] * 24)

    def test_all_is_new_behind_it(self):
        sent = "ab\x1b[31mc\x1b[47hxyz\x1b[32m\x1b[2"
        lines = ask(("now", sent), ("wanted", sent + "1"), ("size", 8, 3), ("like",), ("cursor", 0), ("cursor", 1))
        self.assertEqual(lines, [[3], [4], [24], [1, 0], [0, 0, 0, 0], [0, 0, 0, 0]])

    def test_nothing_is_held_behind_it(self):
        for name, which in (("now", 0), ("wanted", 1)):
            lines = ask((name, "\x1b[3"), ("size", 8, 3), (name, "1m"), ("cursor", which))
            self.assertEqual(lines[2:], [[0], [0, 2, 0, 0]])

    def test_the_region_and_the_kept_place_are_new(self):
        lines = ask(("now", "\x1b[1;2r\x1b[2;2H\x1b[s"), ("size", 8, 3), ("now", "\n\n"), ("cursor", 0),
                    ("now", "\x1b[u"), ("cursor", 0))
        self.assertEqual([lines[3], lines[5]], [[2, 0, 0, 0], [0, 0, 0, 0]])

    def test_the_other_screen_is_new_too(self):
        lines = ask(("now", "\x1b[47hxyz"), ("size", 8, 3), ("now", "\x1b[47h"), ("like",))
        self.assertEqual(lines[3], [1, 0])

    def test_refused_leaves_all(self):
        before = [("size", 6, 2), ("now", "abc\x1b[31m"), ("wanted", "abX\x1b[4")]
        behind = [("like",), ("cursor", 0), ("cursor", 1), ("least",), ("wanted", "m"), ("quick",)]
        refused = [("size", 6, 7), ("size", 1, 2), ("size", 13, 2)]
        self.assertEqual(ask(*before, *refused, *behind)[6:], ask(*before, *behind)[3:])


class NowAndWanted(unittest.TestCase):
    def test_answer_how_many_are_held(self):
        for name in ("now", "wanted"):
            sent = ["", "a", "\x1b", "[", "12", ";", "4567890", "H", "\x1b[1234567890", "1", "\x1b\x1b"]
            lines = ask(*[(name, one) for one in sent])
            self.assertEqual([line[0] for line in lines], [0, 0, 1, 2, 4, 5, 12, 0, 12, 0, 1], name)

    def test_are_two_things(self):
        lines = ask(("now", "ab\x1b["), ("wanted", "31m"), ("cursor", 0), ("cursor", 1), ("like",))
        self.assertEqual(lines, [[2], [0], [0, 2, 0, 0], [0, 3, 0, 0], [0, 3]])

    def test_go_on_where_they_were(self):
        lines = ask(("now", "a\x1b"), ("now", "[3"), ("now", "1m"), ("now", "b"), ("cursor", 0))
        self.assertEqual(lines, [[1], [3], [0], [0], [0, 2, 0, 1]])

    def test_400_bytes(self):
        lines = ask(("size", 12, 6), ("now", "a" * 400), ("cursor", 0))
        self.assertEqual(lines[1:], [[0], [5, 4, 0, 0]])


class Like(unittest.TestCase):
    def test_new_ones_are(self):
        self.assertEqual(ask(("like",)), [[1, 0]])

    def test_cells_count(self):
        self.assertEqual(ask(("now", "abc\r"), ("wanted", "aXY\r"), ("like",))[2], [0, 2])

    def test_colours_of_cells_count(self):
        lines = ask(("now", "\x1b[31ma \x1b[m"), ("wanted", "a "), ("like",))
        self.assertEqual(lines[2], [0, 2])

    def test_both_halves_count(self):
        self.assertEqual(ask(("now", "\xc0"), ("wanted", "\xc1"), ("like",))[2], [0, 2])
        self.assertEqual(ask(("now", "\xc0\r"), ("wanted", ""), ("like",))[2], [0, 2])

    def test_the_cursor_counts(self):
        self.assertEqual(ask(("now", "\x1b[2H"), ("like",))[1], [0, 0])
        self.assertEqual(ask(("now", "\x1b[;2H"), ("like",))[1], [0, 0])

    def test_the_colour_counts(self):
        self.assertEqual(ask(("now", "\x1b[31m"), ("like",))[1], [0, 0])

    def test_due_now_counts_and_due_wanted_does_not(self):
        full = "abcdefgh"
        self.assertEqual(ask(("now", full), ("wanted", full), ("like",))[2], [0, 0])
        self.assertEqual(ask(("now", full), ("wanted", full + "\x1b[C"), ("like",))[2], [0, 0])
        self.assertEqual(ask(("now", full + "\x1b[C"), ("wanted", full), ("like",))[2], [1, 0])

    def test_the_region_the_kept_place_and_going_on_do_not_count(self):
        self.assertEqual(ask(("now", "\x1b[2;3r"), ("like",))[1], [1, 0])
        self.assertEqual(ask(("now", "\x1b[2;2H\x1b[s\x1b[H"), ("like",))[1], [1, 0])
        self.assertEqual(ask(("now", "abcdefghi\x1b[H"), ("wanted", "abcdefgh\r\ni\x1b[H"), ("like",))[2], [1, 0])

    def test_screens_that_are_not_shown_do_not_count(self):
        self.assertEqual(ask(("now", "\x1b[47habc\x1b[47l"), ("like",))[1], [1, 0])
        self.assertEqual(ask(("now", "ab"), ("wanted", "\x1b[47hab"), ("like",))[2], [1, 0])

    def test_what_is_held_does_not_count(self):
        self.assertEqual(ask(("now", "\x1b["), ("like",))[1], [1, 0])


class Cursor(unittest.TestCase):
    def test_of_now_and_wanted(self):
        lines = ask(("now", "\n\x1b[35mab"), ("wanted", "abcdefgh"), ("cursor", 0), ("cursor", 1))
        self.assertEqual(lines[2:], [[1, 2, 0, 5], [0, 7, 1, 0]])

    def test_of_the_shown_screen(self):
        lines = ask(("now", "ab\x1b[47h"), ("cursor", 0), ("now", "\x1b[47l"), ("cursor", 0))
        self.assertEqual([lines[1], lines[3]], [[0, 0, 0, 0], [0, 2, 0, 0]])

    def test_refused(self):
        for which in (-1, 2, 12, GREAT, -GREAT):
            self.assertEqual(ask(("cursor", which)), [[-3]])

    def test_not_refused_while_something_is_held(self):
        self.assertEqual(ask(("now", "a\x1b"), ("cursor", 0))[1], [0, 1, 0, 0])


class Ready(unittest.TestCase):
    def test_least_and_quick_are_refused_while_something_is_held_now(self):
        for held in ("\x1b", "\x1b[", "\x1b[3", "\x1b[1;2"):
            lines = ask(("now", held), ("least",), ("quick",), ("now", "\x07"), ("quick",))
            self.assertEqual(lines[1:3], [[-8], [-8]])
            self.assertEqual(lines[4], [0])

    def test_what_wanted_holds_is_no_matter(self):
        lines = ask(("wanted", "\x1b[3"), ("least",), ("quick",))
        self.assertEqual(lines[1:], [[0, 24] + [0] * 24, [0]])

    def test_what_is_held_stays_held(self):
        lines = ask(("now", "ab\x1b[3"), ("least",), ("quick",), ("cursor", 5), ("way", 9, 0, 0, 0, 0), ("now", "1m"),
                    ("cursor", 0))
        self.assertEqual(lines[5:], [[0], [0, 2, 0, 1]])


class Interface(unittest.TestCase):
    def test_flat_list_in_and_out(self):
        calls = [0, 6, 2, 1, 5, 97, 98, 99, 100, 101, 2, 0, 3, 12, 1, 4, 0, 0, 0, 1, 2, 0, 1, 1]
        self.assertEqual(answers(calls), [1, 12, 1, 0, 1, 0, 2, 0, 5, 4, 0, 0, 0, 0, 7, 6, 27, 91, 50, 59, 51, 72,
                                          1, -5])

    def test_what_is_handed_in_stays(self):
        calls = flat([("size", 6, 2), ("now", "abc\x1b[K"), ("wanted", "ab\xc0"), ("least",), ("quick",), ("like",)])
        before = list(calls)
        given = answers(calls)
        self.assertEqual(calls, before)
        self.assertEqual(answers(Unchangeable(calls)), given)

    def test_nothing_is_kept(self):
        calls = flat([("now", "abc\x1b[31"), ("like",), ("cursor", 0)])
        first = answers(calls)
        answers(flat([("size", 12, 6), ("now", "xyz"), ("least",)]))
        self.assertEqual(answers(calls), first)

    def test_answers_may_be_changed_by_who_asked(self):
        calls = flat([("way", 0, 0, 0, 1, 1), ("least",), ("way", 0, 0, 0, 1, 1)])
        first = answers(calls)
        kept = list(first)
        first.clear()
        self.assertEqual(answers(calls), kept)

    def test_whole_numbers_alone(self):
        calls = flat([
            ("size", 6, 2), ("now", "abcdef"), ("like",), ("cursor", 0), ("cursor", 1), ("least",), ("quick",),
            ("wanted", "abcdef\x1b"), ("like",), ("way", 0, 5, 1, 0, 5), ("least",), ("size", 0, 0),
        ])
        given = answers(calls)
        self.assertIs(list, type(given))
        self.assertEqual({type(number) for number in given}, {int})

    def test_60_calls_of_every_length(self):
        lines = ask(*[("now", "a" * number) for number in range(60)])
        self.assertEqual(lines, [[0]] * 60)


if __name__ == "__main__":
    unittest.main()
