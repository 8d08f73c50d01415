"""The document's own example, as far as the calls reach."""

import unittest

from tests.helper import ask, octets


class Example(unittest.TestCase):
    def test_example(self):
        lines = ask(
            ("size", 6, 2), ("now", "abcde"), ("wanted", "abXd"), ("like",), ("least",), ("quick",),
            ("way", 0, 5, 1, 1, 0),
        )
        self.assertEqual(lines, [
            [12],
            [0],
            [0],
            [0, 2],
            [7, 8, 8, 8, 88, 100, 32, 8, 12, 0, 0, 2, 2, 2, 0, 0, 0, 0, 0, 0, 0],
            [9, 8, 8, 8, 88, 27, 91, 67, 32, 8],
            [4, 27, 91, 66, 13],
        ])

    def test_least_row_sent(self):
        lines = ask(
            ("size", 6, 2), ("now", "abcde"), ("wanted", "abXd"), ("now", "\b\b\bXd \b"), ("like",), ("least",),
        )
        self.assertEqual(lines[4], [1, 0])
        self.assertEqual(lines[5], [0, 12] + [0] * 12)

    def test_quick_row_sent(self):
        sent = octets("\b\b\bX\x1b[C \b")
        lines = ask(("size", 6, 2), ("now", "abcde"), ("wanted", "abXd"), ("now", sent), ("like",))
        self.assertEqual(lines[4], [1, 0])


if __name__ == "__main__":
    unittest.main()
