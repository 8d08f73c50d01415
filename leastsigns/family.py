"""The family of ways from one screen to another: units, their choices, and the bytes that these tell."""

from leastsigns.cells import BLANK, RIGHT_HALF, wide_at

KEPT = 0
ERASED = 1
WRITTEN = 2


class Unit:
    def __init__(self, row, column, cells):
        self.place = (row, column)
        self.cells = cells
        self.sign = cells[0][0]
        self.colour = cells[0][2]
        self.keepable = False
        self.erasable = False
        self.spot_behind = None
        self.next_row_unit = 0


class Family:
    def __init__(self, now, wanted, ways):
        self.ways = ways
        self.first_spot = now.spot()
        self.first_colour = now.colour
        self.goal = (wanted.row, wanted.column)
        self.goal_colour = wanted.colour
        self.units = []
        for row, cells in enumerate(wanted.rows):
            units = units_in_row(row, cells)
            mark_keepable(units, now.rows[row])
            mark_erasable(units)
            self.units.extend(units)
            for unit in units:
                unit.next_row_unit = len(self.units)


def units_in_row(row, cells):
    units = []
    column = 0
    while column < len(cells):
        width = 2 if wide_at(cells, column) else 1
        unit = Unit(row, column, cells[column:column + width])
        column += width
        unit.spot_behind = (row, min(column, len(cells) - 1), column == len(cells))
        units.append(unit)
    return units


# What is there by then does not hang on the choices made before: a right half of now
# at a unit's beginning has its left half in a unit before, where it was not as wanted,
# so that one was written over (or the row's end erased, which is looked at elsewhere).
def mark_keepable(units, now_cells):
    for unit in units:
        column = unit.place[1]
        by_then = now_cells[column:column + len(unit.cells)]
        if by_then[0][1] == RIGHT_HALF:
            by_then[0] = BLANK
        unit.keepable = by_then == unit.cells


def mark_erasable(units):
    blank_so_far = True
    for unit in reversed(units):
        blank_so_far = blank_so_far and unit.cells == [BLANK]
        unit.erasable = blank_so_far


def painting(colour, wanted_colour):
    if colour == wanted_colour:
        return []
    if wanted_colour == 0:
        return [27, 91, 109]
    return [27, 91, 51, 48 + wanted_colour, 109]


def erasing():
    return [27, 91, 75]


def quick_choices(family):
    return [KEPT if unit.keepable else WRITTEN for unit in family.units]


def may_be(unit, choice, end_erased):
    if end_erased:
        return choice == KEPT
    if choice == KEPT:
        return unit.keepable
    return choice == WRITTEN or unit.erasable


def are_let(family, choices):
    erased_row = None
    for unit, choice in zip(family.units, choices):
        row = unit.place[0]
        if not may_be(unit, choice, row == erased_row):
            return False
        if choice == ERASED:
            erased_row = row
    return True


# The choices are let.
def told_octets(family, choices):
    octets = []
    spot = family.first_spot
    colour = family.first_colour
    for unit, choice in zip(family.units, choices):
        if choice == KEPT:
            continue
        octets.extend(family.ways.taken(spot, unit.place))
        if choice == ERASED:
            octets.extend(erasing())
            spot = (unit.place[0], unit.place[1], False)
        else:
            octets.extend(painting(colour, unit.colour))
            octets.append(unit.sign)
            spot = unit.spot_behind
            colour = unit.colour
    octets.extend(family.ways.taken(spot, family.goal))
    octets.extend(painting(colour, family.goal_colour))
    return octets
