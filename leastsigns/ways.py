"""Ways of the cursor. A spot is a tuple: a row, a column and whether a new row is due."""

BACK = 8
RETURN = 13
UP = 65
DOWN = 66
RIGHT = 67
LEFT = 68


def digits(number):
    return [ord(sign) for sign in str(number)]


def moved_by(number, letter):
    told = [] if number == 1 else digits(number)
    return [27, 91] + told + [letter]


def up_or_down(row, target):
    if target > row:
        return moved_by(target - row, DOWN)
    if target < row:
        return moved_by(row - target, UP)
    return []


def returned_to(target):
    return [RETURN] + (moved_by(target, RIGHT) if target != 0 else [])


def parts_in_row(column, target):
    if target > column:
        return [moved_by(target - column, RIGHT), returned_to(target)]
    if target < column:
        steps = column - target
        return [moved_by(steps, LEFT), [BACK] * steps, returned_to(target)]
    return [[]]


# Where the cursor stays, something must still be sent, so that no row is due any more.
def parts_on_the_spot(column):
    parts = [moved_by(1, RIGHT)]
    if column != 0:
        parts.append(returned_to(column))
    return parts


def straight_to(row, column):
    row_told = digits(row + 1) if row != 0 else []
    column_told = [59] + digits(column + 1) if column != 0 else []
    return [27, 91] + row_told + column_told + [72]


def way_taken(spot, row, column):
    if spot == (row, column, False):
        return []
    before = up_or_down(spot[0], row)
    if before == [] and spot[1] == column:
        parts = parts_on_the_spot(column)
    else:
        parts = parts_in_row(spot[1], column)
    ways = [before + part for part in parts]
    ways.append(straight_to(row, column))
    # min gives the first of several that are as short.
    return min(ways, key=len)


# The same ways are asked for again and again, whatever the size of the screen.
class Ways:
    def __init__(self):
        self.known = {}

    def taken(self, spot, place):
        asked = (spot, place)
        if asked not in self.known:
            self.known[asked] = way_taken(spot, place[0], place[1])
        return self.known[asked]
