"""One screen: its rows, its cursor, and what the plain bytes do with them."""

from leastsigns.cells import BLANK, LEFT_HALF, RIGHT_HALF, WHOLE, blank_cells, mended


class Screen:
    def __init__(self, columns, height):
        self.columns = columns
        self.rows = [blank_cells(columns) for number in range(height)]
        self.goes_on = [False] * height
        self.row = 0
        self.column = 0
        self.due = False
        self.colour = 0
        self.top = 0
        self.bottom = height - 1
        self.kept_row = 0
        self.kept_column = 0

    # A screen of its own: what is done with it is not seen in this one.
    def twin(self):
        copied = Screen(self.columns, len(self.rows))
        copied.rows = [list(cells) for cells in self.rows]
        copied.goes_on = list(self.goes_on)
        copied.row = self.row
        copied.column = self.column
        copied.due = self.due
        copied.colour = self.colour
        copied.top = self.top
        copied.bottom = self.bottom
        copied.kept_row = self.kept_row
        copied.kept_column = self.kept_column
        return copied

    # All that two screens of one size can be unlike in.
    def insides(self):
        region = (self.top, self.bottom)
        kept = (self.kept_row, self.kept_column)
        return (self.rows, self.goes_on, self.spot(), self.colour, region, kept)

    def spot(self):
        return (self.row, self.column, self.due)

    def last_row(self):
        return len(self.rows) - 1

    def last_column(self):
        return self.columns - 1

    def go(self, row, column):
        self.row = min(row, self.last_row())
        self.column = min(column, self.last_column())
        self.due = False

    def in_region(self):
        return self.top <= self.row <= self.bottom

    def part_from_above(self, row):
        if row > 0:
            self.goes_on[row - 1] = False

    def change_row(self, row, cells):
        self.rows[row] = mended(cells)

    def blank_part(self, row, first, last):
        cells = self.rows[row]
        blanks = blank_cells(last + 1 - first)
        self.change_row(row, cells[:first] + blanks + cells[last + 1:])
        if last == self.last_column():
            self.goes_on[row] = False

    def blank_rows(self, first, last):
        for row in range(first, last + 1):
            self.blank_part(row, 0, self.last_column())

    def take_out(self, first, count):
        gone = min(count, self.bottom + 1 - first)
        self.move_rows(first, list(range(first + gone, self.bottom + 1)), gone, False)

    def put_in(self, first, count):
        new = min(count, self.bottom + 1 - first)
        self.move_rows(first, list(range(first, self.bottom + 1 - new)), new, True)

    # From the row first to the region's bottom stand the rows that stay, with new ones above or below them.
    def move_rows(self, first, staying, new, above):
        rows = [self.rows[row] for row in staying]
        goes_on = [self.goes_on[row] for row in staying]
        blank = [blank_cells(self.columns) for number in range(new)]
        ended = [False] * new
        rows = blank + rows if above else rows + blank
        goes_on = ended + goes_on if above else goes_on + ended
        self.rows = self.rows[:first] + rows + self.rows[self.bottom + 1:]
        self.goes_on = self.goes_on[:first] + goes_on + self.goes_on[self.bottom + 1:]

    def down(self):
        if self.row == self.bottom:
            self.part_from_above(self.top)
            self.take_out(self.top, 1)
        elif self.row < self.last_row():
            self.row += 1

    def wrap(self):
        self.goes_on[self.row] = True
        self.down()
        self.column = 0
        self.due = False

    def put_cells(self, new):
        cells = self.rows[self.row]
        behind = self.column + len(new)
        self.change_row(self.row, cells[:self.column] + new + cells[behind:])
        self.column = min(behind, self.last_column())
        self.due = behind > self.last_column()

    def write_narrow(self, sign):
        if self.due:
            self.wrap()
        self.put_cells([(sign, WHOLE, self.colour)])

    def write_wide(self, sign):
        if self.due or self.column == self.last_column():
            self.wrap()
        self.put_cells([(sign, LEFT_HALF, self.colour), (sign, RIGHT_HALF, self.colour)])

    def back(self):
        self.go(self.row, max(self.column - 1, 0))

    def tabulate(self):
        self.go(self.row, (self.column // 4 + 1) * 4)

    def feed_row(self):
        self.goes_on[self.row] = False
        self.down()
        self.due = False

    def return_to_first(self):
        self.go(self.row, 0)

    def insert_blanks(self, count):
        cells = self.rows[self.row]
        new = min(count, self.columns - self.column)
        moved = cells[:self.column] + [BLANK] * new + cells[self.column:]
        self.change_row(self.row, moved[:self.columns])
        self.due = False

    def delete_cells(self, count):
        cells = self.rows[self.row]
        gone = min(count, self.columns - self.column)
        kept = cells[:self.column] + cells[self.column + gone:]
        self.change_row(self.row, kept + [BLANK] * gone)
        self.goes_on[self.row] = False
        self.due = False
