"""Random lines, answered by the package and by the second program of the helper."""

import random
import unittest

from tests.helper import (
    Model, ask, counted, least_by_layers, least_of_all, model_cursor, model_like, octets, quick_of, random_sent,
)
from leastsigns.terminal import Terminal

PARTS = {"whole": 0, "left": 1, "right": 2}


def model_insides(model):
    screens = []
    for name in ("main", "other"):
        s = model.screens[name]
        rows = []
        for r in range(model.height):
            cells = [s["cells"][r, c] for c in range(model.width)]
            rows.append([(ord(sign), PARTS[part], colour) for sign, part, colour in cells])
        on = [s["on"][r] for r in range(model.height)]
        screens.append((rows, on, s["at"], s["due"], s["colour"], s["region"], s["kept"]))
    return screens, model.shown == "other", octets(model.held)


def insides(terminal):
    screens = []
    for s in (terminal.main, terminal.other):
        at = (s.row, s.column)
        kept = (s.kept_row, s.kept_column)
        screens.append((s.rows, s.goes_on, at, s.due, s.colour, (s.top, s.bottom), kept))
    return screens, terminal.other_shown, terminal.held


class RandomBytes(unittest.TestCase):
    def test_all_that_a_thing_has(self):
        chance = random.Random(1)
        for turn in range(3000):
            width, height = chance.randrange(2, 13), chance.randrange(1, 7)
            if turn % 2:
                width, height = chance.randrange(2, 6), chance.randrange(1, 5)
            sent = octets(random_sent(chance, 40))
            model, terminal = Model(width, height), Terminal(width, height)
            model.feed(sent)
            terminal.feed(sent)
            self.assertEqual(insides(terminal), model_insides(model), (width, height, sent))

    def test_any_bytes(self):
        chance = random.Random(2)
        for turn in range(300):
            width, height = chance.randrange(2, 13), chance.randrange(1, 7)
            sent = [chance.choice([chance.randrange(256), 27, 91, 49]) for number in range(200)]
            model, terminal = Model(width, height), Terminal(width, height)
            model.feed(sent)
            terminal.feed(sent)
            self.assertEqual(insides(terminal), model_insides(model), (width, height, sent))


class RandomLines(unittest.TestCase):
    def hold_against(self, size, sent, sent_wanted, least):
        now, wanted = Model(*size), Model(*size)
        now.feed(octets(sent))
        wanted.feed(octets(sent_wanted))
        expected = [[size[0] * size[1]], [len(now.held)], [len(wanted.held)], model_like(now, wanted)]
        expected += [model_cursor(now), model_cursor(wanted)]
        if now.held:
            expected += [[-8], [-8]]
        else:
            row, choices = least(now, wanted)
            expected += [counted(row) + counted(choices), counted(quick_of(now, wanted))]
        calls = [("size",) + size, ("now", sent), ("wanted", sent_wanted), ("like",)]
        calls += [("cursor", 0), ("cursor", 1), ("least",), ("quick",)]
        self.assertEqual(ask(*calls), expected, (size, sent, sent_wanted))

    def test_small_screens_by_all_rows_of_choices(self):
        chance = random.Random(3)
        for turn in range(250):
            size = chance.choice([(2, 1), (2, 2), (3, 1), (3, 2), (2, 3), (4, 1), (5, 1), (6, 1)])
            sent = random_sent(chance, 14)
            more = random_sent(chance, 5)
            sent_wanted = sent + more if turn % 2 else random_sent(chance, 14)
            self.hold_against(size, sent, sent_wanted, least_of_all)

    def test_greater_screens_unit_by_unit(self):
        chance = random.Random(4)
        for turn in range(60):
            size = (chance.randrange(2, 13), chance.randrange(1, 4))
            sent = random_sent(chance, 30)
            sent_wanted = sent + random_sent(chance, 10) if turn % 2 else random_sent(chance, 30)
            self.hold_against(size, sent, sent_wanted, least_by_layers)

    def test_coloured_screens(self):
        chance = random.Random(5)
        pieces = ["\x1b[31m", "\x1b[32m", "\x1b[m", "a", "b", " ", "  ", "\xc0", "\r\n", "\x1b[K", "\b", "\x1b[31ma"]
        for turn in range(400):
            small = turn % 2 == 0
            size = chance.choice([(3, 2), (2, 3), (5, 1), (6, 1)] if small else [(3, 3), (5, 2), (4, 3), (9, 2)])
            sent = "".join(chance.choice(pieces) for number in range(chance.randrange(12)))
            more = "".join(chance.choice(pieces) for number in range(chance.randrange(8)))
            sent_wanted = (sent if turn % 3 == 0 else "") + more
            self.hold_against(size, sent, sent_wanted, least_of_all if small else least_by_layers)


if __name__ == "__main__":
    unittest.main()
