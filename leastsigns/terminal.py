"""A whole thing that bytes are sent to: two screens, one of them shown, and what is held."""

from leastsigns.controls import do_control, told_numbers, told_or
from leastsigns.display import Screen

ESCAPE = 27
BRACKET = 91
MOST_HELD = 12
SMALL_H = 104
SMALL_L = 108


def is_digit_or_parting(octet):
    return 48 <= octet <= 57 or octet == 59


# Only H and r have a second number.
def too_many_numbers(letter, numbers):
    return len(numbers) > 2 or (len(numbers) == 2 and letter not in (72, 114))


class Terminal:
    def __init__(self, columns, height):
        self.main = Screen(columns, height)
        self.other = Screen(columns, height)
        self.other_shown = False
        self.held = []

    # What bytes do with the twin is not seen here.
    def twin(self):
        copied = Terminal(self.main.columns, len(self.main.rows))
        copied.main = self.main.twin()
        copied.other = self.other.twin()
        copied.other_shown = self.other_shown
        copied.held = list(self.held)
        return copied

    def insides(self):
        return (self.main.insides(), self.other.insides(), self.other_shown, self.held)

    def shown(self):
        return self.other if self.other_shown else self.main

    def feed(self, octets):
        for octet in octets:
            self.feed_one(octet)

    def feed_one(self, octet):
        if self.may_hold(octet):
            self.held.append(octet)
        elif len(self.held) >= 2 and 64 <= octet <= 126:
            numbers = told_numbers(self.held[2:])
            self.held = []
            self.obey(octet, numbers)
        else:
            self.held = []
            self.count_anew(octet)

    def may_hold(self, octet):
        if len(self.held) == 1:
            return octet == BRACKET
        return 2 <= len(self.held) < MOST_HELD and is_digit_or_parting(octet)

    def obey(self, letter, numbers):
        if too_many_numbers(letter, numbers):
            return
        if letter == SMALL_H or letter == SMALL_L:
            if told_or(numbers, 0, 0) == 47:
                self.other_shown = letter == SMALL_H
        else:
            do_control(self.shown(), letter, numbers)

    def count_anew(self, octet):
        screen = self.shown()
        if 32 <= octet <= 126:
            screen.write_narrow(octet)
        elif 192 <= octet <= 223:
            screen.write_wide(octet)
        elif octet == 8:
            screen.back()
        elif octet == 9:
            screen.tabulate()
        elif octet == 10:
            screen.feed_row()
        elif octet == 13:
            screen.return_to_first()
        elif octet == ESCAPE:
            self.held = [ESCAPE]
