"""The document's own example, whole."""

import unittest

from tests.helper import ask, digits, octets

BEGINNING = (("size", 6, 2), ("now", "abcde"), ("wanted", "abXd"))


class Example(unittest.TestCase):
    def test_example(self):
        lines = ask(
            *BEGINNING, ("like",), ("least",), ("quick",), ("choose", digits("002010000000")), ("take",), ("like",),
            ("way", 0, 5, 1, 1, 0), ("try", [13]),
        )
        self.assertEqual(lines, [
            [12],
            [0],
            [0],
            [0, 2],
            [7, 8, 8, 8, 88, 100, 32, 8, 12, 0, 0, 2, 2, 2, 0, 0, 0, 0, 0, 0, 0],
            [9, 8, 8, 8, 88, 27, 91, 67, 32, 8],
            [1, 10, 8, 8, 8, 88, 27, 91, 67, 27, 91, 75],
            [7, 1],
            [1, 0],
            [4, 27, 91, 66, 13],
            [0, 1, 0],
        ])

    def test_each_row_sent(self):
        for sent in ("\b\b\bXd \b", "\b\b\bX\x1b[C \b", "\b\b\bX\x1b[C\x1b[K"):
            lines = ask(*BEGINNING, ("try", sent), ("now", sent), ("like",), ("least",))
            self.assertEqual(lines[3], [1, len(sent), 7])
            self.assertEqual(lines[5], [1, 0])
            self.assertEqual(lines[6], [0, 12] + [0] * 12)

    def test_what_is_seen_then(self):
        lines = ask(*BEGINNING, ("take",), ("row", 0, 0), ("row", 0, 1), ("cursor", 0), ("swap",), ("swap",))
        self.assertEqual(lines[4:], [
            [6] + octets("abXd  ") + [6] + [0] * 6,
            [6] + [32] * 6 + [6] + [0] * 6,
            [0, 4, 0, 0],
            [0],
            [0],
        ])


if __name__ == "__main__":
    unittest.main()
