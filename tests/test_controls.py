"""Points 2 and 3: what is held and dropped, numbers, and what each control does."""

import unittest

from tests.helper import ask, cursor_behind, shows

FOUR = "\x1b[Habcd\x1b[2Hefgh\x1b[3Hijkl\x1b[4Hmnop"
SIZE = (4, 4)


class Held(unittest.TestCase):
    def test_a_byte_that_does_not_fit_is_counted_anew(self):
        shows(self, (6, 1), "\x1ba", ["a"])
        shows(self, (6, 1), "\x1bHa", ["Ha"])
        shows(self, (6, 1), "\x1b3", ["3"])
        shows(self, (6, 1), "\x1b;", [";"])
        shows(self, (6, 1), "\x1b[ a", [" a"])
        shows(self, (6, 1), "\x1b[2?a", ["?a"])
        shows(self, (6, 1), "\x1b[2:a", [":a"])
        shows(self, (6, 1), "\x1b[2/a", ["/a"])
        shows(self, (6, 1), "\x1b[2\xc0", ["\xc0"])
        shows(self, (6, 1), "ab\x1b[2\rc", ["cb"])
        shows(self, (6, 1), "ab\x1b[2\x7fc", ["abc"])
        shows(self, (6, 1), "ab\x1b\xe0[c", ["ab[c"])

    def test_a_second_27_begins_anew(self):
        self.assertEqual(ask(("now", "\x1b[2\x1b"), ("now", "[31m"), ("cursor", 0)), [[1], [0], [0, 0, 0, 1]])
        self.assertEqual(ask(("now", "\x1b\x1b[32m"), ("cursor", 0))[1], [0, 0, 0, 2])

    def test_at_most_10_digits_and_partings(self):
        self.assertEqual(cursor_behind((8, 2), "\x1b[0000000004C"), [0, 4, 0, 0])
        self.assertEqual(cursor_behind((8, 2), "\x1b[000002;004H"), [1, 3, 0, 0])
        shows(self, (8, 2), "\x1b[00000000001C", ["1C"])
        shows(self, (8, 2), "\x1b[000002;004;H", [";H"])

    def test_any_letter_ends_it(self):
        for octet in list(range(64, 127)):
            sent = [27, 91, 57, octet]
            self.assertEqual(ask(("now", sent), ("now", sent), ("like",))[:2], [[0], [0]])
            shows(self, (4, 1), sent, [])

    def test_letters_that_do_nothing(self):
        for letter in "EFGINOQRSTUVWXYZ[\\]^_`abcdefgijknopqtvwxyz{|}~":
            shows(self, (4, 2), "abcd\x1b[" + letter, ["abcd"])
            self.assertEqual(cursor_behind((4, 2), "abcd\x1b[" + letter), [0, 3, 1, 0], letter)


class Numbers(unittest.TestCase):
    def test_too_great_is_999(self):
        self.assertEqual(cursor_behind((8, 3), "\x1b[99999C"), [0, 7, 0, 0])
        self.assertEqual(cursor_behind((8, 3), "\x1b[99999999;9H"), [2, 7, 0, 0])
        self.assertEqual(cursor_behind((8, 3), "\x1b[1030m"), [0, 0, 0, 0])

    def test_more_than_two_do_nothing(self):
        for letter in "ABCDHJKLMP@mrsu":
            for told in ("1;1;1", ";;"):
                sent = "abcd\x1b[32m\x1b[" + told + letter
                self.assertEqual(cursor_behind((4, 2), sent), [0, 3, 1, 2], letter + told)
                shows(self, (4, 2), sent, ["abcd"])

    def test_two_do_nothing_but_with_H_and_r(self):
        for letter in "ABCDJKLMP@msu":
            for told in ("1;1", ";", "0;", ";0"):
                sent = "abcd\x1b[32m\x1b[" + told + letter
                self.assertEqual(cursor_behind((4, 2), sent), [0, 3, 1, 2], letter + told)
                shows(self, (4, 2), sent, ["abcd"])
        self.assertEqual(cursor_behind((4, 2), "ab\x1b[47;h")[1], 2)
        self.assertEqual(cursor_behind((4, 2), "abcd\x1b[;H"), [0, 0, 0, 0])
        self.assertEqual(cursor_behind((4, 2), "abcd\x1b[;r"), [0, 0, 0, 0])


class Going(unittest.TestCase):
    def test_up_down_right_left(self):
        start = "\x1b[3;3H"
        places = {
            "A": [1, 2], "B": [3, 2], "C": [2, 3], "D": [2, 1],
            "0A": [2, 2], "0B": [2, 2], "0C": [2, 2], "0D": [2, 2],
            "2A": [0, 2], "2B": [4, 2], "2C": [2, 4], "2D": [2, 0],
            "3A": [0, 2], "9B": [4, 2], "9C": [2, 4], "3D": [2, 0],
        }
        for told, place in places.items():
            self.assertEqual(cursor_behind((5, 5), start + "\x1b[" + told), place + [0, 0], told)

    def test_nothing_is_due_behind_them(self):
        for letter in "ABCD":
            self.assertEqual(cursor_behind((2, 1), "ab\x1b[0" + letter), [0, 1, 0, 0])

    def test_not_held_by_the_region(self):
        self.assertEqual(cursor_behind((3, 5), "\x1b[2;3r\x1b[9B"), [4, 0, 0, 0])
        self.assertEqual(cursor_behind((3, 5), "\x1b[2;3r\x1b[5H\x1b[9A"), [0, 0, 0, 0])

    def test_straight(self):
        places = {
            "": [0, 0], "2": [1, 0], ";2": [0, 1], "2;3": [1, 2], "0;0": [0, 0], "0;3": [0, 2], "2;0": [1, 0],
            "2;": [1, 0], ";": [0, 0], "99;99": [2, 4], "3;5": [2, 4], "4;6": [2, 4],
        }
        for told, place in places.items():
            self.assertEqual(cursor_behind((5, 3), "\nabcde\x1b[" + told + "H"), place + [0, 0], told)

    def test_kept_place(self):
        self.assertEqual(cursor_behind((5, 3), "\nab\x1b[s\x1b[H\x1b[u"), [1, 2, 0, 0])
        self.assertEqual(cursor_behind((5, 3), "\nab\x1b[u"), [0, 0, 0, 0])
        self.assertEqual(cursor_behind((2, 2), "ab\x1b[s"), [0, 1, 1, 0])
        self.assertEqual(cursor_behind((2, 2), "ab\x1b[s\x1b[u"), [0, 1, 0, 0])
        self.assertEqual(cursor_behind((5, 3), "ab\x1b[7s\x1b[H\x1b[9u"), [0, 2, 0, 0])


class Erasing(unittest.TestCase):
    def test_in_the_row(self):
        start = FOUR + "\x1b[2;2H"
        for told, row in (("", "e"), ("0", "e"), ("1", "  gh"), ("2", ""), ("3", "efgh"), ("999", "efgh")):
            shows(self, SIZE, start + "\x1b[" + told + "K", ["abcd", row, "ijkl", "mnop"])
            self.assertEqual(cursor_behind(SIZE, start + "\x1b[" + told + "K"), [1, 1, 0, 0])

    def test_in_the_screen(self):
        start = FOUR + "\x1b[2;2H"
        rows = {
            "": ["abcd", "e"], "0": ["abcd", "e"], "1": ["", "  gh", "ijkl", "mnop"], "2": [],
            "3": ["abcd", "efgh", "ijkl", "mnop"],
        }
        for told, shown in rows.items():
            shows(self, SIZE, start + "\x1b[" + told + "J", shown)
            self.assertEqual(cursor_behind(SIZE, start + "\x1b[" + told + "J"), [1, 1, 0, 0])

    def test_due(self):
        for letter in "JK":
            for told, due in (("", 0), ("0", 0), ("1", 0), ("2", 0), ("3", 1), ("47", 1)):
                self.assertEqual(cursor_behind((2, 2), "ab\x1b[" + told + letter), [0, 1, due, 0], told + letter)

    def test_blanks_have_no_colour(self):
        shows(self, (4, 1), "\x1b[31mabcd\x1b[;3H\x1b[K", ["ab  "], ["1100"])
        shows(self, (4, 2), "\x1b[31mabcd\x1b[;3H\x1b[2J", ["    "], ["0000"])

    def test_halves(self):
        shows(self, (4, 1), "\xc0\xc1\x1b[;2H\x1b[K", [])
        shows(self, (4, 1), "\xc0\xc1\x1b[;3H\x1b[K", ["\xc0"])
        shows(self, (4, 1), "\xc0\xc1\x1b[;3H\x1b[1K", [])
        shows(self, (4, 1), "\xc0\xc1\x1b[;2H\x1b[1K", ["  \xc1"])

    def test_not_held_by_the_region(self):
        shows(self, SIZE, FOUR + "\x1b[2;3r\x1b[J", [])


class RowsInAndOut(unittest.TestCase):
    def test_put_in(self):
        rows = {
            "": ["abcd", "", "efgh", "ijkl"], "0": ["abcd", "efgh", "ijkl", "mnop"], "2": ["abcd", "", "", "efgh"],
            "3": ["abcd"], "4": ["abcd"], "999": ["abcd"],
        }
        for told, shown in rows.items():
            shows(self, SIZE, FOUR + "\x1b[2;3H\x1b[" + told + "L", shown)
            self.assertEqual(cursor_behind(SIZE, FOUR + "\x1b[2;3H\x1b[" + told + "L"), [1, 2, 0, 0])

    def test_taken_out(self):
        rows = {
            "": ["abcd", "ijkl", "mnop"], "0": ["abcd", "efgh", "ijkl", "mnop"], "2": ["abcd", "mnop"],
            "3": ["abcd"], "4": ["abcd"], "999": ["abcd"],
        }
        for told, shown in rows.items():
            shows(self, SIZE, FOUR + "\x1b[2;3H\x1b[" + told + "M", shown)
            self.assertEqual(cursor_behind(SIZE, FOUR + "\x1b[2;3H\x1b[" + told + "M"), [1, 2, 0, 0])

    def test_in_the_region(self):
        start = FOUR + "\x1b[2;3r\x1b[2H"
        shows(self, SIZE, start + "\x1b[L", ["abcd", "", "efgh", "mnop"])
        shows(self, SIZE, start + "\x1b[9L", ["abcd", "", "", "mnop"])
        shows(self, SIZE, start + "\x1b[M", ["abcd", "ijkl", "", "mnop"])
        shows(self, SIZE, start + "\x1b[9M", ["abcd", "", "", "mnop"])
        shows(self, SIZE, start + "\x1b[B\x1b[L", ["abcd", "efgh", "", "mnop"])

    def test_outside_the_region(self):
        for row in (1, 4):
            for letter in "LM":
                sent = FOUR + f"\x1b[2;3r\x1b[{row}H\x1b[{letter}"
                shows(self, SIZE, sent, ["abcd", "efgh", "ijkl", "mnop"])

    def test_nothing_is_due_in_any_case(self):
        for letter in "LM":
            self.assertEqual(cursor_behind((2, 3), "ab\x1b[" + letter), [0, 1, 0, 0])
            self.assertEqual(cursor_behind((2, 3), "\x1b[2;3rab\x1b[" + letter), [0, 1, 0, 0])


class CellsInAndOut(unittest.TestCase):
    def test_put_in(self):
        rows = {"": "a bcd", "0": "abcde", "2": "a  bc", "4": "a", "5": "a", "999": "a"}
        for told, row in rows.items():
            sent = "abcde\x1b[;2H\x1b[" + told + "@"
            shows(self, (5, 2), sent, [row])
            self.assertEqual(cursor_behind((5, 2), sent), [0, 1, 0, 0])

    def test_taken_out(self):
        rows = {"": "acde", "0": "abcde", "2": "ade", "4": "a", "5": "a", "999": "a"}
        for told, row in rows.items():
            sent = "abcde\x1b[;2H\x1b[" + told + "P"
            shows(self, (5, 2), sent, [row])
            self.assertEqual(cursor_behind((5, 2), sent), [0, 1, 0, 0])

    def test_nothing_is_due(self):
        for letter in "@P":
            self.assertEqual(cursor_behind((2, 2), "ab\x1b[" + letter), [0, 1, 0, 0])
            self.assertEqual(cursor_behind((2, 2), "ab\x1b[0" + letter), [0, 1, 0, 0])

    def test_halves(self):
        shows(self, (5, 1), "a\xc0\xc1\x1b[;3H\x1b[@", ["a   "])
        shows(self, (5, 1), "a\xc0\xc1\x1b[;2H\x1b[@", ["a \xc0"])
        shows(self, (5, 1), "a\xc0\xc1\x1b[;2H\x1b[P", ["a \xc1"])
        shows(self, (5, 1), "a\xc0\xc1\x1b[;3H\x1b[P", ["a \xc1"])
        shows(self, (5, 1), "a\xc0\xc1\x1b[;3H\x1b[2P", ["a  "])

    def test_halves_of_two_that_meet(self):
        shows(self, (5, 1), "a\xc0\xc0\x1b[;3H\x1b[2P", ["a\xc0"])
        shows(self, (5, 1), "a\x1b[31m\xc0\x1b[32m\xc0\x1b[;3H\x1b[2P", ["a"])

    def test_blanks_have_no_colour(self):
        shows(self, (3, 1), "\x1b[31mabc\x1b[;2H\x1b[@", ["a b"], ["101"])
        shows(self, (3, 1), "\x1b[31mabc\x1b[;2H\x1b[P", ["ac "], ["110"])


class Colour(unittest.TestCase):
    def test_by_number(self):
        colours = {"": 0, "0": 0, "30": 0, "31": 1, "37": 7, "29": 5, "38": 5, "1": 5, "999": 5, "36": 6}
        for told, colour in colours.items():
            self.assertEqual(cursor_behind((2, 2), "\x1b[35m\x1b[" + told + "m"), [0, 0, 0, colour], told)

    def test_what_is_due_stays_due(self):
        self.assertEqual(cursor_behind((2, 2), "ab\x1b[31m"), [0, 1, 1, 1])


class Region(unittest.TestCase):
    def moved_at(self, told):
        """The rows of five behind a feed in each row, or None for a control that does nothing."""
        rows = "\x1b[Ha\x1b[2Hb\x1b[3Hc\x1b[4Hd\x1b[5He"
        place = cursor_behind((2, 5), rows + "\x1b[" + told + "r")
        return None if place[:2] == [4, 1] else place

    def test_which_are_taken(self):
        for told in ("", ";", "1;2", "1;5", "4;5", ";2", "2", "4", "2;"):
            self.assertEqual(self.moved_at(told), [0, 0, 0, 0], told)
        for told in ("0", "0;3", "2;2", "3;2", "1;6", "5", "5;5", ";0", ";1", "1;0", ";999", "1;2;3"):
            self.assertEqual(self.moved_at(told), None, told)

    def test_rows_from_and_to(self):
        rows = "\x1b[Ha\x1b[2Hb\x1b[3Hc\x1b[4Hd\x1b[5He"
        shows(self, (2, 5), rows + "\x1b[2;4r\x1b[4H\n", ["a", "c", "d", "", "e"])
        shows(self, (2, 5), rows + "\x1b[;3r\x1b[3H\n", ["b", "c", "", "d", "e"])
        shows(self, (2, 5), rows + "\x1b[3r\x1b[5H\n", ["a", "b", "d", "e"])
        shows(self, (2, 5), rows + "\x1b[2;4r\x1b[r\x1b[5H\n", ["b", "c", "d", "e"])
        shows(self, (2, 5), rows + "\x1b[2;4r\x1b[3;3r\x1b[4H\n", ["a", "c", "d", "", "e"])

    def test_due_stays_if_nothing_is_done(self):
        self.assertEqual(cursor_behind((2, 2), "ab\x1b[2;2r"), [0, 1, 1, 0])
        self.assertEqual(cursor_behind((2, 1), "ab\x1b[r"), [0, 1, 1, 0])
        self.assertEqual(cursor_behind((2, 2), "ab\x1b[r"), [0, 0, 0, 0])


class OtherScreen(unittest.TestCase):
    def test_shown_and_main_again(self):
        shows(self, (4, 2), "ab\x1b[47h", [])
        shows(self, (4, 2), "ab\x1b[47hxyz", ["xyz"])
        shows(self, (4, 2), "ab\x1b[47hxyz\x1b[47l", ["ab"])
        shows(self, (4, 2), "ab\x1b[47hxyz\x1b[47l\x1b[47h", ["xyz"])
        shows(self, (4, 2), "ab\x1b[47hx\x1b[47hy", ["xy"])
        shows(self, (4, 2), "ab\x1b[47lc", ["abc"])

    def test_other_numbers_do_nothing(self):
        for told in ("", "0", "46", "48", "4747"):
            shows(self, (4, 2), "ab\x1b[" + told + "h", ["ab"])
            shows(self, (4, 2), "ab\x1b[47hc\x1b[" + told + "l", ["c"])

    def test_each_has_its_own(self):
        self.assertEqual(cursor_behind((3, 4), "\nabc\x1b[31m\x1b[47h"), [0, 0, 0, 0])
        self.assertEqual(cursor_behind((3, 4), "\nabc\x1b[31m\x1b[47hx\x1b[47l"), [1, 2, 1, 1])
        self.assertEqual(cursor_behind((3, 4), "\nab\x1b[s\x1b[47h\x1b[u"), [0, 0, 0, 0])
        self.assertEqual(cursor_behind((3, 4), "\nab\x1b[s\x1b[47h\x1b[s\x1b[47l\x1b[H\x1b[u"), [1, 2, 0, 0])
        self.assertEqual(cursor_behind((3, 4), "\x1b[1;2r\x1b[47h\x1b[2H\n"), [2, 0, 0, 0])
        self.assertEqual(cursor_behind((3, 4), "\x1b[1;2r\x1b[47h\x1b[47l\x1b[2H\n"), [1, 0, 0, 0])


if __name__ == "__main__":
    unittest.main()
