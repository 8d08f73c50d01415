"""The whole program: lines that mix all thirteen calls, refusals that leave all as it was, and the interface."""

import random
import time
import unittest

from tests.helper import (
    GREAT, NUMBERS, SecondLine, Unchangeable, ask, flat, let_choices, model_units, octets, parted, quick_of,
    random_sent,
)
from leastsigns.screens import answers

SIZES = ((2, 1), (12, 6), (2, 6), (12, 1), (3, 2), (8, 3), (5, 1), (4, 4), (2, 2))
ODD_NUMBERS = (-1, 0, 1, 2, 3, 5, 6, 11, 12, 13, GREAT, -GREAT)


def some_choices(chance, line):
    """Choices that are let, choices one of which was changed, and others."""
    now, wanted = line.two
    units = model_units(wanted)
    model, erased_row, choices = now.copy(), None, []
    for unit in units:
        let = let_choices(model, unit, erased_row == unit[0])
        choice, sent = chance.choice(let)
        model.feed(octets(sent))
        erased_row = unit[0] if choice == 1 else erased_row
        choices.append(choice)
    turn = chance.randrange(6)
    if turn == 0:
        choices[chance.randrange(len(units))] = chance.randrange(3)
    elif turn == 1:
        choices[chance.randrange(len(units))] = chance.choice(ODD_NUMBERS)
    elif turn == 2:
        choices = (choices + [0])[:chance.choice((0, len(units) - 1, len(units) + 1))][:72]
    elif turn == 3 and not now.held:
        choices = line.least()[1]
    return choices


def some_bytes(chance, line):
    """Bytes to be tried: those of the least row, of the quick row, these with one gone, and others."""
    if line.two[0].held or chance.random() < 0.3:
        return octets(random_sent(chance, 8))
    row = list(line.least()[0] if chance.random() < 0.5 else quick_of(*line.two))
    if row and chance.random() < 0.3:
        row.pop(chance.randrange(len(row)))
    return row[:400]


def some_call(chance, line, size, pieces):
    name = chance.choice(list(NUMBERS) + ["now", "wanted", "choose", "try", "take", "row"])
    if name == "size":
        odd = chance.random()
        return ("size",) + (size if odd < 0.2 else (chance.choice(ODD_NUMBERS), chance.choice((0, 7, GREAT))))
    if name in ("now", "wanted"):
        return (name, octets(random_sent(chance, pieces)))
    if name == "way":
        return (name,) + tuple(chance.choice(ODD_NUMBERS[1:5] * 3 + ODD_NUMBERS) for number in range(5))
    if name == "choose":
        return (name, some_choices(chance, line))
    if name == "try":
        return (name, some_bytes(chance, line))
    if name == "row":
        return (name, chance.choice((0, 1, 0, 1, 0, 1, 2, GREAT)), chance.choice((0, 0, 1, 2, 5, 6, -1, -GREAT)))
    if name == "cursor":
        return (name, chance.choice((0, 1, 0, 1, 2, -1)))
    return (name,)


def some_line(chance, size, count, pieces):
    """A line of calls, and what the second program answers."""
    line = SecondLine()
    calls, expected = [], []
    for number in range(count):
        call = ("size",) + size if number == 0 else some_call(chance, line, size, pieces)
        calls.append(call)
        expected.append(line.answer(call))
    return calls, expected


class RandomLines(unittest.TestCase):
    def hold_against(self, seed, turns, sizes, count, pieces):
        chance = random.Random(seed)
        asked = set()
        for turn in range(turns):
            calls, expected = some_line(chance, sizes[turn % len(sizes)], count, pieces)
            numbers = flat(calls)
            if len(numbers) > 17000:
                continue
            given = parted(answers(numbers))
            for place, call in enumerate(calls):
                self.assertEqual(given[place], expected[place], calls[:place + 1])
                asked.add((call[0], expected[place][0] if expected[place][0] < 0 else 0))
            self.assertEqual(len(given), len(calls))
        return asked

    def test_every_size(self):
        asked = self.hold_against(31, 36, SIZES, 60, 8)
        for name in NUMBERS:
            self.assertIn((name, 0), asked)
        for refused in (("size", -5), ("way", -2), ("way", -3), ("row", -3), ("row", -2), ("cursor", -3), ("choose", -7),
                        ("choose", -8), ("least", -8), ("quick", -8), ("take", -8), ("try", -8)):
            self.assertIn(refused, asked)

    def test_the_smallest(self):
        self.hold_against(32, 120, ((2, 1), (3, 1), (2, 2)), 60, 5)

    def test_the_greatest(self):
        self.hold_against(33, 6, ((12, 6),), 60, 20)

    def test_short_ones_on_the_screen_that_is_there_at_first(self):
        chance = random.Random(34)
        for turn in range(60):
            line = SecondLine()
            calls, expected = [], []
            for number in range(chance.randrange(1, 10)):
                calls.append(some_call(chance, line, (8, 3), 12))
                expected.append(line.answer(calls[-1]))
            self.assertEqual(ask(*calls), expected, calls)


class Refused(unittest.TestCase):
    beginnings = (
        ("abc\x1b[31m", "abX"), ("abcdefghi\x1b[47hxy\x1b[s\x1b[2;3r\xc0", "ab\x1b[47h\x1b[32mxyz\x1b[4"),
        ("ab\x1b[3", "ab\x1b[3"), ("\x1b[2;3r\x1b[2H\x1b[s" + "x" * 8 + "\x1b", ""),
    )
    refused = [
        ("size", 1, 1), ("size", 13, 6), ("size", 2, 7), ("size", GREAT, -GREAT), ("way", 3, 0, 0, 0, 0),
        ("way", 0, 0, 0, 0, 8), ("way", 0, 0, 1, 0, 0), ("way", 0, 7, 2, 0, 0), ("choose", []), ("choose", [2] * 72),
        ("choose", [3] + [2] * 23), ("choose", [-GREAT] * 24), ("row", 2, 0), ("row", 0, 3), ("row", -1, -1),
        ("cursor", 2), ("cursor", -GREAT),
    ]
    refused_while_held = [("least",), ("quick",), ("choose", [2] * 24), ("take",), ("try", "m"), ("try", "\x07xyz")]
    looks = [("like",), ("row", 0, 0), ("row", 1, 0), ("row", 0, 1), ("row", 1, 2), ("cursor", 0), ("cursor", 1)]
    behind = looks + [("swap",)] + looks + [
        ("swap",), ("now", "6m"), ("wanted", "6m"), ("cursor", 0), ("cursor", 1), ("least",), ("quick",), ("now", "\x1b[u"),
        ("cursor", 0), ("now", "\x1b[47h"), ("cursor", 0), ("row", 0, 0), ("now", "\x1b[3H\n"), ("row", 0, 1), ("take",),
        ("swap",),
    ]

    def check(self, beginning, calls):
        before = [("now", beginning[0]), ("wanted", beginning[1])]
        expected = ask(*before, *self.behind)[2:]
        for call in calls:
            lines = ask(*before, call, *self.behind)
            self.assertEqual(len(lines[2]), 1)
            self.assertLess(lines[2][0], 0, call)
            self.assertEqual(lines[3:], expected, (beginning, call))

    def test_all_is_as_it_was(self):
        for beginning in self.beginnings:
            self.check(beginning, self.refused)

    def test_while_something_is_held(self):
        for beginning in self.beginnings[2:]:
            self.check(beginning, self.refused_while_held)

    def test_ready_stands_before_all_else(self):
        lines = ask(("now", "\x1b"), ("choose", [9]), ("choose", [GREAT] * 24), ("take",), ("try", "\x07" * 400))
        self.assertEqual(lines[1:], [[-8]] * 4)


class Interface(unittest.TestCase):
    mixed = [
        ("size", 6, 2), ("now", "abc\x1b[K"), ("wanted", "ab\xc0"), ("like",), ("way", 0, 0, 0, 1, 1), ("least",),
        ("quick",), ("choose", [2] * 11), ("choose", [0] * 11), ("choose", [7]), ("try", "\x1b[31mxyz\x1b["), ("take",),
        ("swap",), ("row", 0, 0), ("row", 1, 1), ("cursor", 0), ("cursor", 1), ("try", []),
    ]

    def test_what_is_handed_in_stays(self):
        calls = flat(self.mixed)
        before = list(calls)
        given = answers(calls)
        self.assertEqual(calls, before)
        self.assertEqual(answers(Unchangeable(calls)), given)

    def test_by_number(self):
        calls = [0, 2, 1, 1, 1, 97, 2, 1, 98, 3, 4, 0, 0, 0, 0, 1, 5, 6, 7, 2, 2, 0, 8, 9, 1, 27, 10, 11, 1, 0, 12, 0]
        self.assertEqual(answers(calls), [
            1, 2, 1, 0, 1, 0, 2, 0, 1, 4, 3, 27, 91, 67, 6, 2, 8, 98, 2, 2, 0, 3, 2, 8, 98, 4, 1, 2, 8, 98, 2, 2, 1,
            3, 0, 1, 0, 1, 0, 6, 2, 98, 32, 2, 0, 0, 4, 0, 1, 0, 0,
        ])

    def test_rows_of_numbers_that_look_like_calls(self):
        lines = ask(("try", [0, 8, 3]), ("choose", [8] * 24), ("now", [10, 12, 0]), ("choose", []), ("cursor", 0))
        self.assertEqual(lines, [[1, 3, 0], [-7], [0], [-7], [1, 0, 0, 0]])

    def test_nothing_is_kept(self):
        calls = flat(self.mixed)
        first = answers(calls)
        answers(flat([("size", 12, 6), ("now", "xyz\x1b["), ("swap",), ("take",)]))
        self.assertEqual(answers(calls), first)
        self.assertEqual(ask(("like",), ("swap",), ("row", 0, 0))[:2], [[1, 0], [0]])

    def test_whole_numbers_alone(self):
        given = answers(flat(self.mixed))
        self.assertIs(type(given), list)
        self.assertEqual({type(number) for number in given}, {int})

    def test_every_call_by_itself(self):
        for call in self.mixed:
            self.assertEqual(ask(call), [SecondLine().answer(call)], call)


class InGoodTime(unittest.TestCase):
    colours = "".join(f"\x1b[3{colour}mx" for colour in range(1, 8))
    pairs = (("", ""), ("", colours), (colours, "\x1b[m"), ("a" * 72, "b" * 72), ("a" * 71, " " * 71 + "\x1b[35m"))

    def in_time(self, calls):
        numbers = flat(calls)
        self.assertLessEqual(len(numbers), 17000)
        self.assertLessEqual(len(calls), 60)
        began = time.monotonic()
        given = parted(answers(numbers))
        self.assertLess(time.monotonic() - began, 30)
        return given

    def test_60_calls_on_the_greatest_screen(self):
        for sent, sent_wanted in self.pairs:
            beginning = [("size", 12, 6), ("now", sent), ("wanted", sent_wanted)]
            for call in (("try", "a" * 200), ("choose", [2] * 72), ("take",), ("swap",), ("row", 0, 5), ("cursor", 1)):
                self.assertEqual(len(self.in_time(beginning + [call] * 57)), 60)

    def test_there_and_back(self):
        for sent, sent_wanted in self.pairs:
            turns = [("now", sent), ("take",), ("swap",)] * 19
            lines = self.in_time([("size", 12, 6), ("now", sent), ("wanted", sent_wanted)] + turns)
            self.assertEqual([line[1] for line in lines[4::3]], [1] * 19)

    def test_as_many_numbers_as_there_may_be(self):
        calls = [("size", 12, 6)]
        for number in range(14):
            calls += [("now", self.colours * 8 + "\x1b[m"), ("wanted", "ab\xc0\r\n" * 79), ("try", "\xc0" * 400), ("take",)]
        lines = self.in_time(calls)
        self.assertEqual([line[1] for line in lines[4::4]], [1] * 14)


if __name__ == "__main__":
    unittest.main()
