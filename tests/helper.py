"""What the tests share: calls by name, pictures of screens, and a second program, told from the document anew.

The second program (Model and what stands below it) is slow and plain on purpose. It shares no code
with the package, so that the two can be held against one another.
"""

from leastsigns.screens import answers

NUMBERS = {
    "size": 0, "now": 1, "wanted": 2, "like": 3, "way": 4, "least": 5, "quick": 6, "choose": 7, "take": 8, "try": 9,
    "swap": 10, "row": 11, "cursor": 12,
}
GREAT = 1000000000000000000


class Unchangeable(list):
    """A list that may be read alone."""

    def refuse(self, *told, **named):
        raise AssertionError("what is handed in is changed")

    append = clear = extend = insert = pop = remove = reverse = sort = refuse
    __setitem__ = __delitem__ = __iadd__ = __imul__ = refuse


def octets(told):
    """A text by its signs (a wide one as the letter with its number), or a list as it is."""
    return [ord(sign) for sign in told] if isinstance(told, str) else list(told)


def flat(calls):
    numbers = []
    for call in calls:
        numbers.append(NUMBERS[call[0]])
        for value in call[1:]:
            if isinstance(value, int):
                numbers.append(value)
            else:
                numbers.append(len(value))
                numbers.extend(octets(value))
    return numbers


def parted(numbers):
    """The answers of a line, one list a call; or the lists of one answer."""
    result = []
    place = 0
    while place < len(numbers):
        behind = place + 1 + numbers[place]
        result.append(numbers[place + 1:behind])
        place = behind
    return result


def ask(*calls):
    return parted(answers(flat(calls)))


def digits(text):
    """Choices, or colours, told as a text of digits."""
    return [int(sign) for sign in text]


def sent_text(row):
    return "".join(chr(octet) for octet in row)


def counted(row):
    return [len(row)] + list(row)


def picture(texts, colours=None):
    """Bytes that draw the rows told on a new screen; colours has a digit for each sign."""
    drawn = ""
    for number, text in enumerate(texts):
        drawn += f"\x1b[{number + 1}H"
        for place, sign in enumerate(text):
            colour = colours[number][place] if colours else "0"
            drawn += f"\x1b[3{colour}m" + sign
    return drawn


def shows(test, size, sent, texts, colours=None):
    """Behind these bytes a new screen has these rows (each drawn anew on wanted)."""
    drawn = picture(texts, colours)
    lines = ask(("size",) + size, ("now", sent), ("wanted", drawn), ("like",))
    test.assertEqual(lines[3][1], 0, f"{sent!r} does not show {texts!r} {colours!r}")


def cursor_behind(size, sent):
    """Row, column, due and colour behind these bytes, on a new screen."""
    return ask(("size",) + size, ("now", sent), ("cursor", 0))[2]


# ------------------------------------------------------------------ a second program

BLANK = (" ", "whole", 0)


class Model:
    def __init__(self, width, height):
        self.width = width
        self.height = height
        self.held = ""
        self.shown = "main"
        self.screens = {"main": self.new(), "other": self.new()}

    def new(self):
        cells = {(r, c): BLANK for r in range(self.height) for c in range(self.width)}
        return {
            "cells": cells, "on": {r: False for r in range(self.height)}, "at": (0, 0), "due": False,
            "colour": 0, "region": (0, self.height - 1), "kept": (0, 0),
        }

    def copy(self):
        other = Model(self.width, self.height)
        other.held = self.held
        other.shown = self.shown
        for name, screen in self.screens.items():
            other.screens[name] = {**screen, "cells": dict(screen["cells"]), "on": dict(screen["on"])}
        return other

    @property
    def s(self):
        return self.screens[self.shown]

    def mend(self, r):
        cells = self.s["cells"]
        c = 0
        while c < self.width:
            sign, part, colour = cells[r, c]
            if part == "left" and cells.get((r, c + 1)) == (sign, "right", colour):
                c += 2
                continue
            if part != "whole":
                cells[r, c] = BLANK
            c += 1

    def go(self, r, c):
        self.s["at"] = (min(max(r, 0), self.height - 1), min(max(c, 0), self.width - 1))
        self.s["due"] = False

    def set_row(self, r, content):
        for c in range(self.width):
            self.s["cells"][r, c] = content[c]
        self.mend(r)

    def get_row(self, r):
        return [self.s["cells"][r, c] for c in range(self.width)]

    def blank_row(self, r):
        self.set_row(r, [BLANK] * self.width)
        self.s["on"][r] = False

    def remove_rows(self, r, n):
        for _ in range(min(n, self.height + 1)):
            for k in range(r, self.s["region"][1]):
                self.set_row(k, self.get_row(k + 1))
                self.s["on"][k] = self.s["on"][k + 1]
            self.blank_row(self.s["region"][1])

    def insert_rows(self, r, n):
        for _ in range(min(n, self.height + 1)):
            for k in range(self.s["region"][1], r, -1):
                self.set_row(k, self.get_row(k - 1))
                self.s["on"][k] = self.s["on"][k - 1]
            self.blank_row(r)

    def down(self):
        r, c = self.s["at"]
        top, bottom = self.s["region"]
        if r == bottom:
            if top > 0:
                self.s["on"][top - 1] = False
            self.remove_rows(top, 1)
        elif r + 1 < self.height:
            self.s["at"] = (r + 1, c)

    def wrap(self):
        self.s["on"][self.s["at"][0]] = True
        self.down()
        self.s["at"] = (self.s["at"][0], 0)
        self.s["due"] = False

    def put(self, parts):
        if self.s["due"] or self.s["at"][1] + len(parts) > self.width:
            self.wrap()
        r, c = self.s["at"]
        for k, cell in enumerate(parts):
            self.s["cells"][r, c + k] = cell
        self.mend(r)
        self.s["due"] = c + len(parts) == self.width
        self.s["at"] = (r, min(c + len(parts), self.width - 1))

    def feed(self, row):
        for octet in row:
            self.one(octet)

    def one(self, octet):
        sign = chr(octet)
        if self.held == "\x1b" and sign == "[":
            self.held += sign
        elif len(self.held) > 1 and sign in "0123456789;" and len(self.held) < 12:
            self.held += sign
        elif len(self.held) > 1 and 64 <= octet <= 126:
            told, self.held = self.held[2:], ""
            self.control(sign, [min(int(n), 999) if n else None for n in told.split(";")])
        else:
            self.held = ""
            self.anew(octet)

    def anew(self, octet):
        sign = chr(octet)
        colour = self.s["colour"]
        r, c = self.s["at"]
        if octet in range(32, 127):
            self.put([(sign, "whole", colour)])
        elif octet in range(192, 224):
            self.put([(sign, "left", colour), (sign, "right", colour)])
        elif octet == 8:
            self.go(r, c - 1)
        elif octet == 9:
            self.go(r, min(k for k in (4, 8, 12) if k > c))
        elif octet == 10:
            self.s["on"][r] = False
            self.down()
            self.s["due"] = False
        elif octet == 13:
            self.go(r, 0)
        elif octet == 27:
            self.held = sign

    def control(self, letter, told):
        if len(told) > 2 or (len(told) == 2 and letter not in "Hr"):
            return
        n = 1 if told[0] is None else told[0]
        z = 0 if told[0] is None else told[0]
        second = told[1] if len(told) == 2 else None
        s = self.s
        r, c = s["at"]
        top, bottom = s["region"]
        if letter in "ABCD":
            dr, dc = {"A": (-1, 0), "B": (1, 0), "C": (0, 1), "D": (0, -1)}[letter]
            self.go(r + n * dr, c + n * dc)
        elif letter == "H":
            self.go(n - 1, (1 if second is None else second) - 1)
        elif letter in "JK" and z in (0, 1, 2):
            span = {0: range(c, self.width), 1: range(0, c + 1), 2: range(self.width)}[z]
            self.set_row(r, [BLANK if k in span else cell for k, cell in enumerate(self.get_row(r))])
            if self.width - 1 in span:
                s["on"][r] = False
            if letter == "J":
                for k in range(self.height):
                    if (k > r and z in (0, 2)) or (k < r and z in (1, 2)):
                        self.blank_row(k)
            s["due"] = False
        elif letter in "LM":
            if top <= r <= bottom:
                if r > 0:
                    s["on"][r - 1] = False
                if letter == "L":
                    self.insert_rows(r, n)
                    s["on"][bottom] = False
                else:
                    s["on"][bottom] = False
                    self.remove_rows(r, n)
            s["due"] = False
        elif letter == "@":
            row = self.get_row(r)
            self.set_row(r, (row[:c] + [BLANK] * n + row[c:])[:self.width])
            s["due"] = False
        elif letter == "P":
            row = self.get_row(r)
            self.set_row(r, (row[:c] + row[c + n:] + [BLANK] * self.width)[:self.width])
            s["on"][r] = False
            s["due"] = False
        elif letter == "m":
            if z == 0 or 30 <= z <= 37:
                s["colour"] = z % 10
        elif letter == "r":
            last = self.height if second is None else second
            if 1 <= n < last <= self.height:
                s["region"] = (n - 1, last - 1)
                self.go(0, 0)
        elif letter == "s":
            s["kept"] = s["at"]
        elif letter == "u":
            self.go(*s["kept"])
        elif letter in "hl" and z == 47:
            self.shown = "other" if letter == "h" else "main"


def all_ways(r, c, due, r2, c2):
    """Every way of the document, in its order, as texts."""
    def by(n, letter):
        return "\x1b[" + (str(n) if n != 1 else "") + letter

    if (r, c) == (r2, c2) and not due:
        return [""]
    upright = "" if r == r2 else by(r2 - r, "B") if r2 > r else by(r - r2, "A")
    if c2 > c:
        along = [by(c2 - c, "C"), "\r" + by(c2, "C")]
    elif c2 < c:
        along = [by(c - c2, "D"), "\b" * (c - c2), "\r" + (by(c2, "C") if c2 else "")]
    elif upright:
        along = [""]
    else:
        along = [by(1, "C")] + (["\r" + by(c2, "C")] if c2 else [])
    straight = "\x1b[" + (str(r2 + 1) if r2 else "") + (";" + str(c2 + 1) if c2 else "") + "H"
    return [upright + part for part in along] + [straight]


def model_way(r, c, due, r2, c2):
    ways = all_ways(r, c, due, r2, c2)
    return next(way for way in ways if len(way) == min(len(other) for other in ways))


def model_units(wanted):
    units = []
    for r in range(wanted.height):
        row = wanted.get_row(r)
        for c, (sign, part, colour) in enumerate(row):
            if part != "right":
                blank_on = all(cell == BLANK for cell in row[c:])
                units.append((r, c, row[c:c + 2] if part == "left" else row[c:c + 1], blank_on))
    return units


def paint(colour, wanted):
    return "" if colour == wanted else "\x1b[m" if wanted == 0 else f"\x1b[3{wanted}m"


def let_choices(model, unit, erased):
    """The choices that may be made at a unit, by the cells that are there by then; with what they send."""
    r, c, cells, blank_on = unit
    way = model_way(*model.s["at"], model.s["due"], r, c)
    let = []
    if erased or model.get_row(r)[c:c + len(cells)] == cells:
        let.append((0, ""))
    if blank_on and not erased:
        let.append((1, way + "\x1b[K"))
    if not erased:
        let.append((2, way + paint(model.s["colour"], cells[0][2]) + cells[0][0]))
    return let


def end_text(model, wanted):
    way = model_way(*model.s["at"], model.s["due"], *wanted.s["at"])
    return way + paint(model.s["colour"], wanted.s["colour"])


def all_rows_of_choices(now, wanted):
    """Every row of choices that is let, with its bytes as a text: each step is really sent to a copy of now."""
    units = model_units(wanted)
    pending = [(now.copy(), (), "", None)]
    while pending:
        model, choices, text, erased_row = pending.pop()
        if len(choices) == len(units):
            yield choices, text + end_text(model, wanted)
            continue
        unit = units[len(choices)]
        for choice, sent in let_choices(model, unit, erased_row == unit[0]):
            further = model.copy()
            further.feed(octets(sent))
            row = unit[0] if choice == 1 else erased_row
            pending.append((further, choices + (choice,), text + sent, row))


def least_of_all(now, wanted):
    """The least row by going through all rows of choices."""
    found = min((len(text), choices, text) for choices, text in all_rows_of_choices(now, wanted))
    return octets(found[2]), list(found[1])


def least_by_layers(now, wanted):
    """The least row unit by unit: of those that stand alike behind a unit, only the best is gone on with."""
    layer = {None: ((0, (), ""), now.copy(), None)}
    for unit in model_units(wanted):
        further = {}
        for best, model, erased_row in layer.values():
            for choice, sent in let_choices(model, unit, erased_row == unit[0]):
                after = model.copy() if sent else model
                after.feed(octets(sent))
                row = unit[0] if choice == 1 else erased_row
                rest = tuple(after.get_row(unit[0])[unit[1] + len(unit[2]):])
                key = (after.s["at"], after.s["due"], after.s["colour"], row == unit[0], rest)
                new = (best[0] + len(sent), best[1] + (choice,), best[2] + sent)
                if key not in further or new[:2] < further[key][0][:2]:
                    further[key] = (new, after, row)
        layer = further
    ends = []
    for best, model, erased_row in layer.values():
        text = best[2] + end_text(model, wanted)
        ends.append((len(text), best[1], text))
    found = min(ends)
    return octets(found[2]), list(found[1])


def quick_of(now, wanted):
    model = now.copy()
    text = ""
    for unit in model_units(wanted):
        let = dict(let_choices(model, unit, False))
        sent = "" if 0 in let else let[2]
        model.feed(octets(sent))
        text += sent
    return octets(text + end_text(model, wanted))


def model_like(now, wanted):
    cells = now.s["cells"]
    differing = sum(cells[place] != wanted.s["cells"][place] for place in cells)
    alike = differing == 0 and not now.s["due"]
    alike = alike and now.s["at"] == wanted.s["at"] and now.s["colour"] == wanted.s["colour"]
    return [int(alike), differing]


def model_cursor(model):
    return [*model.s["at"], int(model.s["due"]), model.s["colour"]]


def model_row(model, r):
    row = model.get_row(r)
    return counted([ord(cell[0]) for cell in row if cell[1] != "right"]) + counted([cell[2] for cell in row])


def model_choose(now, wanted, choices):
    """What the choices tell: each one that may be made by then is really sent to a copy of now."""
    units = model_units(wanted)
    if len(choices) != len(units) or not set(choices) <= {0, 1, 2}:
        return [-7]
    model = now.copy()
    text = ""
    erased_row = None
    for unit, choice in zip(units, choices):
        let = dict(let_choices(model, unit, erased_row == unit[0]))
        if choice not in let:
            return [0]
        model.feed(octets(let[choice]))
        text += let[choice]
        erased_row = unit[0] if choice == 1 else erased_row
    return [1] + counted(octets(text + end_text(model, wanted)))


class SecondLine:
    """All thirteen calls, answered by the second program."""

    def __init__(self):
        self.known = {}
        self.two = [Model(8, 3), Model(8, 3)]

    def least(self):
        now, wanted = self.two
        asked = repr((now.s, wanted.s))
        if asked not in self.known:
            small = now.width * now.height <= 6
            self.known[asked] = (least_of_all if small else least_by_layers)(now, wanted)
        return self.known[asked]

    def answer(self, call):
        name, told = call[0], call[1:]
        if name in ("least", "quick", "choose", "take", "try") and self.two[0].held:
            return [-8]
        return {
            "size": self.size, "now": self.sent, "wanted": self.sent_wanted, "like": lambda: model_like(*self.two),
            "way": self.way, "least": lambda: sum(map(counted, self.least()), []),
            "quick": lambda: counted(quick_of(*self.two)), "take": self.take, "try": self.tried, "swap": self.swap,
            "choose": lambda choices: model_choose(*self.two, choices), "row": self.row, "cursor": self.cursor,
        }[name](*told)

    def size(self, width, height):
        if width not in range(2, 13) or height not in range(1, 7):
            return [-5]
        self.two = [Model(width, height), Model(width, height)]
        return [width * height]

    def sent(self, row):
        self.two[0].feed(octets(row))
        return [len(self.two[0].held)]

    def sent_wanted(self, row):
        self.two[1].feed(octets(row))
        return [len(self.two[1].held)]

    def way(self, r, c, due, r2, c2):
        cells = self.two[0].s["cells"]
        if (r, c) not in cells or (r2, c2) not in cells:
            return [-2]
        if due not in (0, 1) or (due and c + 1 < self.two[0].width):
            return [-3]
        return counted(octets(model_way(r, c, due, r2, c2)))

    def take(self):
        row = self.least()[0]
        self.two[0].feed(row)
        return [len(row), model_like(*self.two)[0]]

    def tried(self, row):
        model = self.two[0].copy()
        model.feed(octets(row))
        fine = model_like(model, self.two[1])[0] and not model.held
        return [int(fine), len(row), len(self.least()[0])]

    def swap(self):
        one, two = ((model.screens, model.shown, model.held) for model in self.two)
        self.two.reverse()
        return [int(one != two)]

    def row(self, which, r):
        if which not in (0, 1):
            return [-3]
        return model_row(self.two[which], r) if r in range(self.two[0].height) else [-2]

    def cursor(self, which):
        return model_cursor(self.two[which]) if which in (0, 1) else [-3]


PIECES = (
    "a", "b", "x", " ", "\xc0", "\xdf", "\b", "\t", "\n", "\r", "\x1b", "\x1b[", "[", ";", "5", "\x7f", "\xe0", "\x07",
    "ab", "   ", "\xc1\xc1", "\x1b[2;3H", "\x1b[H", "\x1b[;4H", "\x1b[2;4r", "\x1b[2;3r", "\x1b[r", "\x1b[;2r",
    "\x1b[47h", "\x1b[47l", "\x1b[s", "\x1b[u", "\x1b[31m", "\x1b[37m", "\x1b[m", "\x1b[38m", "\x1b[2;1K",
)


def random_piece(chance):
    if chance.random() < 0.6:
        return chance.choice(PIECES)
    told = chance.choice(["", "0", "1", "2", "3", "5", "9", "999", "12345", ";", "1;1", "0;0", "2;", ";2", "1;2;3"])
    return "\x1b[" + told + chance.choice("@ABCDHJKLMPmrsuhl")


def random_sent(chance, most):
    return "".join(random_piece(chance) for _ in range(chance.randrange(most)))[:400]
