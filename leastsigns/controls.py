"""What a control does with the screen that is shown, by its letter."""


# A number is capped as it grows, for one that is too great stays so behind further digits.
def told_numbers(octets):
    numbers = [None]
    for octet in octets:
        if octet == 59:
            numbers.append(None)
        else:
            before = 0 if numbers[-1] is None else numbers[-1]
            numbers[-1] = min(before * 10 + octet - 48, 999)
    return numbers


def told_or(numbers, place, otherwise):
    if place >= len(numbers) or numbers[place] is None:
        return otherwise
    return numbers[place]


def go_up(screen, numbers):
    screen.go(max(screen.row - told_or(numbers, 0, 1), 0), screen.column)


def go_down(screen, numbers):
    screen.go(screen.row + told_or(numbers, 0, 1), screen.column)


def go_right(screen, numbers):
    screen.go(screen.row, screen.column + told_or(numbers, 0, 1))


def go_left(screen, numbers):
    screen.go(screen.row, max(screen.column - told_or(numbers, 0, 1), 0))


def go_to(screen, numbers):
    row = told_or(numbers, 0, 1)
    column = told_or(numbers, 1, 1)
    screen.go(max(row - 1, 0), max(column - 1, 0))


def erase_in_row(screen, numbers):
    part = told_or(numbers, 0, 0)
    if part > 2:
        return
    first = screen.column if part == 0 else 0
    last = screen.column if part == 1 else screen.last_column()
    screen.blank_part(screen.row, first, last)
    screen.due = False


def erase_in_screen(screen, numbers):
    part = told_or(numbers, 0, 0)
    if part > 2:
        return
    erase_in_row(screen, numbers)
    if part != 1:
        screen.blank_rows(screen.row + 1, screen.last_row())
    if part != 0:
        screen.blank_rows(0, screen.row - 1)


def put_rows_in(screen, numbers):
    if screen.in_region():
        screen.part_from_above(screen.row)
        screen.put_in(screen.row, told_or(numbers, 0, 1))
        screen.goes_on[screen.bottom] = False
    screen.due = False


def take_rows_out(screen, numbers):
    if screen.in_region():
        screen.goes_on[screen.bottom] = False
        screen.part_from_above(screen.row)
        screen.take_out(screen.row, told_or(numbers, 0, 1))
    screen.due = False


def insert_blanks(screen, numbers):
    screen.insert_blanks(told_or(numbers, 0, 1))


def delete_cells(screen, numbers):
    screen.delete_cells(told_or(numbers, 0, 1))


def set_colour(screen, numbers):
    told = told_or(numbers, 0, 0)
    if told == 0:
        screen.colour = 0
    elif 30 <= told <= 37:
        screen.colour = told - 30


def set_region(screen, numbers):
    top = told_or(numbers, 0, 1)
    bottom = told_or(numbers, 1, len(screen.rows))
    if 1 <= top < bottom <= len(screen.rows):
        screen.top = top - 1
        screen.bottom = bottom - 1
        screen.go(0, 0)


def keep_place(screen, numbers):
    screen.kept_row = screen.row
    screen.kept_column = screen.column


def go_to_kept(screen, numbers):
    screen.go(screen.kept_row, screen.kept_column)


LETTERS = {
    64: insert_blanks,
    65: go_up,
    66: go_down,
    67: go_right,
    68: go_left,
    72: go_to,
    74: erase_in_screen,
    75: erase_in_row,
    76: put_rows_in,
    77: take_rows_out,
    80: delete_cells,
    109: set_colour,
    114: set_region,
    115: keep_place,
    117: go_to_kept,
}


def do_control(screen, letter, numbers):
    doing = LETTERS.get(letter)
    if doing is not None:
        doing(screen, numbers)
