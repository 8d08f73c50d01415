"""Point 5: the way taken, its parts and its refusals."""

import unittest

from tests.helper import GREAT, Model, all_ways, ask, counted, model_way, octets, sent_text
from leastsigns.ways import way_taken


def way(size, *told):
    line = ask(("size",) + size, ("way",) + told)[1]
    return line if line[0] < 0 else sent_text(line[1:])


class Taken(unittest.TestCase):
    def check(self, told, expected, size=(12, 6)):
        self.assertEqual(way(size, *told), expected, told)

    def test_nowhere(self):
        self.check((0, 0, 0, 0, 0), "")
        self.check((3, 11, 0, 3, 11), "")

    def test_due_on_the_spot(self):
        self.check((0, 11, 1, 0, 11), "\x1b[C")
        self.check((5, 1, 1, 5, 1), "\x1b[C", (2, 6))

    def test_right(self):
        self.check((0, 0, 0, 0, 1), "\x1b[C")
        self.check((0, 0, 0, 0, 2), "\x1b[2C")
        self.check((2, 1, 0, 2, 11), "\x1b[10C")
        self.check((2, 2, 0, 2, 11), "\x1b[9C")

    def test_left(self):
        self.check((0, 5, 0, 0, 4), "\b")
        self.check((0, 5, 0, 0, 3), "\b\b")
        self.check((0, 5, 0, 0, 2), "\b\b\b")
        self.check((0, 5, 0, 0, 1), "\x1b[4D")
        self.check((0, 11, 0, 0, 1), "\r\x1b[C")
        self.check((0, 10, 0, 0, 1), "\x1b[9D")
        self.check((0, 11, 0, 0, 2), "\x1b[9D")

    def test_to_the_first_column(self):
        self.check((0, 1, 0, 0, 0), "\b")
        self.check((0, 2, 0, 0, 0), "\r")
        self.check((1, 11, 0, 1, 0), "\r")

    def test_left_from_a_spot_that_is_due(self):
        self.check((0, 11, 1, 0, 10), "\b")
        self.check((0, 11, 1, 0, 0), "\r")
        self.check((0, 11, 1, 0, 7), "\x1b[4D")

    def test_up_and_down(self):
        self.check((0, 3, 0, 1, 3), "\x1b[B")
        self.check((0, 3, 0, 2, 3), "\x1b[2B")
        self.check((5, 3, 0, 4, 3), "\x1b[A")
        self.check((5, 3, 0, 1, 3), "\x1b[4A")
        self.check((5, 11, 1, 4, 11), "\x1b[A")

    def test_up_or_down_and_in_the_row(self):
        self.check((0, 5, 1, 1, 0), "\x1b[B\r", (6, 2))
        self.check((0, 5, 0, 1, 4), "\x1b[B\b")
        self.check((1, 5, 0, 2, 4), "\x1b[B\b")
        self.check((1, 5, 0, 3, 3), "\x1b[2B\b\b")
        self.check((5, 1, 0, 4, 0), "\x1b[A\b")
        self.check((3, 5, 0, 4, 0), "\x1b[B\r")

    def test_straight(self):
        self.check((3, 5, 0, 0, 0), "\x1b[H")
        self.check((1, 5, 0, 0, 0), "\x1b[H")
        self.check((3, 5, 0, 0, 7), "\x1b[;8H")
        self.check((0, 5, 0, 2, 0), "\x1b[3H")
        self.check((0, 0, 0, 2, 7), "\x1b[3;8H")
        self.check((0, 0, 0, 5, 11), "\x1b[6;12H")

    def test_of_several_the_first(self):
        self.check((0, 0, 0, 1, 1), "\x1b[B\x1b[C")
        self.check((0, 4, 0, 0, 0), "\r")
        self.check((0, 6, 0, 0, 2), "\x1b[4D")
        self.check((1, 0, 0, 0, 0), "\x1b[A")
        self.check((0, 1, 0, 1, 0), "\x1b[B\b")

    def test_every_way_on_every_size(self):
        for width, height in ((2, 1), (2, 2), (5, 3), (12, 6)):
            spots = [(r, c, 0) for r in range(height) for c in range(width)]
            spots += [(r, width - 1, 1) for r in range(height)]
            for r, c, due in spots:
                calls = [("way", r, c, due, r2, c2) for r2 in range(height) for c2 in range(width)]
                lines = ask(("size", width, height), *calls[:59])[1:] + ask(("size", width, height), *calls[59:])[1:]
                expected = [counted(octets(model_way(*call[1:]))) for call in calls]
                self.assertEqual(lines, expected)

    def test_every_way_leads_there(self):
        for r, c, due in [(r, c, 0) for r in range(3) for c in range(12)] + [(r, 11, 1) for r in range(3)]:
            for r2, c2 in [(r2, c2) for r2 in range(3) for c2 in range(12)]:
                model = Model(12, 3)
                model.s["at"], model.s["due"] = (r, c), bool(due)
                taken = way_taken((r, c, bool(due)), r2, c2)
                model.feed(taken)
                self.assertEqual((model.s["at"], model.s["due"]), ((r2, c2), False))
                self.assertEqual(len(taken), min(len(one) for one in all_ways(r, c, due, r2, c2)))


class Refused(unittest.TestCase):
    def test_rows_and_columns(self):
        for told in (
            (-1, 0, 0, 0, 0), (2, 0, 0, 0, 0), (0, -1, 0, 0, 0), (0, 6, 0, 0, 0), (0, 0, 0, -1, 0), (0, 0, 0, 2, 0),
            (0, 0, 0, 0, -1), (0, 0, 0, 0, 6), (GREAT, 0, 0, 0, 0), (0, 0, 0, 0, -GREAT),
        ):
            self.assertEqual(way((6, 2), *told), [-2], told)

    def test_due(self):
        for told in ((0, 0, 2, 0, 0), (0, 5, -1, 0, 0), (0, 0, 1, 0, 0), (0, 4, 1, 0, 0), (1, 5, GREAT, 0, 0)):
            self.assertEqual(way((6, 2), *told), [-3], told)

    def test_the_place_is_looked_at_first(self):
        for told in ((2, 0, 2, 0, 0), (0, 6, 1, 0, 0), (0, 0, 1, 2, 0), (0, 0, 7, 0, 6)):
            self.assertEqual(way((6, 2), *told), [-2], told)

    def test_asked_while_something_is_held(self):
        self.assertEqual(ask(("now", "\x1b["), ("way", 0, 0, 0, 0, 0))[1], [0])

    def test_changes_nothing(self):
        lines = ask(("now", "ab"), ("way", 2, 0, 0, 1, 1), ("way", 9, 9, 9, 9, 9), ("cursor", 0), ("like",))
        self.assertEqual(lines[3:], [[0, 2, 0, 0], [0, 2]])


if __name__ == "__main__":
    unittest.main()
