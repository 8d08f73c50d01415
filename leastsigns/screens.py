"""The calls on one object: they are read from a list of numbers, and answered in one."""

from leastsigns.cells import RIGHT_HALF
from leastsigns.family import ERASED, KEPT, WRITTEN, Family, are_let, quick_choices, told_octets
from leastsigns.least import least_choices
from leastsigns.terminal import Terminal
from leastsigns.ways import Ways

NO_SUCH_PLACE = -2
NO_SUCH_SETTING = -3
NO_SUCH_SIZE = -5
NO_SUCH_CHOICES = -7
NOT_READY = -8


class State:
    def __init__(self):
        self.ways = Ways()
        self.resize(8, 3)

    def resize(self, columns, height):
        self.columns = columns
        self.height = height
        self.now = Terminal(columns, height)
        self.wanted = Terminal(columns, height)

    def has_row(self, row):
        return 0 <= row < self.height

    def has_column(self, column):
        return 0 <= column < self.columns

    def ready(self):
        return self.now.held == []

    def swap(self):
        before = self.now
        self.now = self.wanted
        self.wanted = before

    def shown_of(self, which):
        return (self.now if which == 0 else self.wanted).shown()

    def make_family(self):
        return Family(self.now.shown(), self.wanted.shown(), self.ways)

    def least_octets(self):
        family = self.make_family()
        return told_octets(family, least_choices(family))


def counted(numbers):
    return [len(numbers)] + numbers


def differing_cells(screen, other):
    differing = 0
    for cells, other_cells in zip(screen.rows, other.rows):
        for cell, other_cell in zip(cells, other_cells):
            if cell != other_cell:
                differing += 1
    return differing


def alike(now, wanted):
    return (
        now.rows == wanted.rows
        and (now.row, now.column) == (wanted.row, wanted.column)
        and now.colour == wanted.colour
        and not now.due
    )


def answer_size(state, told):
    columns = told[0]
    height = told[1]
    if not (2 <= columns <= 12 and 1 <= height <= 6):
        return [NO_SUCH_SIZE]
    state.resize(columns, height)
    return [columns * height]


def answer_now(state, told):
    state.now.feed(told[0])
    return [len(state.now.held)]


def answer_wanted(state, told):
    state.wanted.feed(told[0])
    return [len(state.wanted.held)]


def answer_like(state, told):
    now = state.now.shown()
    wanted = state.wanted.shown()
    return [1 if alike(now, wanted) else 0, differing_cells(now, wanted)]


def answer_way(state, told):
    row = told[0]
    column = told[1]
    due = told[2]
    place = (told[3], told[4])
    if not (state.has_row(row) and state.has_row(place[0])):
        return [NO_SUCH_PLACE]
    if not (state.has_column(column) and state.has_column(place[1])):
        return [NO_SUCH_PLACE]
    if due not in (0, 1) or (due == 1 and column != state.columns - 1):
        return [NO_SUCH_SETTING]
    return counted(state.ways.taken((row, column, due == 1), place))


def answer_least(state, told):
    if not state.ready():
        return [NOT_READY]
    family = state.make_family()
    choices = least_choices(family)
    return counted(told_octets(family, choices)) + counted(choices)


def answer_quick(state, told):
    if not state.ready():
        return [NOT_READY]
    family = state.make_family()
    return counted(told_octets(family, quick_choices(family)))


def fits(family, choices):
    if len(choices) != len(family.units):
        return False
    return all([choice in (KEPT, ERASED, WRITTEN) for choice in choices])


def answer_choose(state, told):
    choices = told[0]
    if not state.ready():
        return [NOT_READY]
    family = state.make_family()
    if not fits(family, choices):
        return [NO_SUCH_CHOICES]
    if not are_let(family, choices):
        return [0]
    return [1] + counted(told_octets(family, choices))


def answer_take(state, told):
    if not state.ready():
        return [NOT_READY]
    octets = state.least_octets()
    state.now.feed(octets)
    return [len(octets), 1 if alike(state.now.shown(), state.wanted.shown()) else 0]


def answer_try(state, told):
    octets = told[0]
    if not state.ready():
        return [NOT_READY]
    tried = state.now.twin()
    tried.feed(octets)
    fine = tried.held == [] and alike(tried.shown(), state.wanted.shown())
    return [1 if fine else 0, len(octets), len(state.least_octets())]


def answer_swap(state, told):
    unlike = state.now.insides() != state.wanted.insides()
    state.swap()
    return [1 if unlike else 0]


def answer_row(state, told):
    which = told[0]
    row = told[1]
    if which not in (0, 1):
        return [NO_SUCH_SETTING]
    if not state.has_row(row):
        return [NO_SUCH_PLACE]
    cells = state.shown_of(which).rows[row]
    signs = [cell[0] for cell in cells if cell[1] != RIGHT_HALF]
    colours = [cell[2] for cell in cells]
    return counted(signs) + counted(colours)


def answer_cursor(state, told):
    which = told[0]
    if which not in (0, 1):
        return [NO_SUCH_SETTING]
    screen = state.shown_of(which)
    return [screen.row, screen.column, 1 if screen.due else 0, screen.colour]


# By a call's number: what answers it, how many whole numbers it has, and how many rows of numbers.
CALLS = {
    0: (answer_size, 2, 0),
    1: (answer_now, 0, 1),
    2: (answer_wanted, 0, 1),
    3: (answer_like, 0, 0),
    4: (answer_way, 5, 0),
    5: (answer_least, 0, 0),
    6: (answer_quick, 0, 0),
    7: (answer_choose, 0, 1),
    8: (answer_take, 0, 0),
    9: (answer_try, 0, 1),
    10: (answer_swap, 0, 0),
    11: (answer_row, 2, 0),
    12: (answer_cursor, 1, 0),
}


def answers(calls):
    state = State()
    given = []
    place = 0
    while place < len(calls):
        call = CALLS[calls[place]]
        place += 1
        told = calls[place:place + call[1]]
        place += call[1]
        for row in range(call[2]):
            behind = place + 1 + calls[place]
            told.append(calls[place + 1:behind])
            place = behind
        answering = call[0]
        given.extend(counted(answering(state, told)))
    return given
