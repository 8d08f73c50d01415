"""Cells and rows of them. A cell is a tuple: its sign, its part and its colour."""

WHOLE = 0
LEFT_HALF = 1
RIGHT_HALF = 2
BLANK = (32, 0, 0)


def blank_cells(columns):
    return [BLANK] * columns


def wide_at(cells, column):
    if column + 1 >= len(cells) or cells[column][1] != LEFT_HALF:
        return False
    left = cells[column]
    return cells[column + 1] == (left[0], RIGHT_HALF, left[2])


# Every change of a row goes through here, so that no half is ever left alone.
def mended(cells):
    result = []
    column = 0
    while column < len(cells):
        if wide_at(cells, column):
            result.extend(cells[column:column + 2])
            column += 2
        else:
            result.append(cells[column] if cells[column][1] == WHOLE else BLANK)
            column += 1
    return result
