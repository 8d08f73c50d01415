"""The least row of a family: the choices with the fewest bytes, of several the first."""

from leastsigns.family import ERASED, KEPT, WRITTEN, erasing, painting

COLOURS = 8


# From each unit on, the first one that may not be kept, or how many units there are.
def first_unkept(units):
    stops = [len(units)] * (len(units) + 1)
    for number in range(len(units) - 1, -1, -1):
        stops[number] = stops[number + 1] if units[number].keepable else number
    return stops


# A step is a tuple: how many bytes are still to come, the unit that is the next one
# not kept (how many units there are, if all are kept), and its choice.
# Steps are found from the last unit to the first, so those behind are always known.
class Search:
    def __init__(self, family):
        self.family = family
        self.units = family.units
        self.end = len(family.units)
        self.places = [unit.place for unit in family.units] + [family.goal]
        self.stops = first_unkept(family.units)
        self.after_writing = [None] * self.end
        self.after_erasing = [None] * self.end

    def find_steps(self):
        for number in range(self.end - 1, -1, -1):
            unit = self.units[number]
            lengths = self.way_lengths(unit.spot_behind, number + 1)
            self.after_writing[number] = self.best_step(lengths, number + 1, unit.colour)
            if unit.erasable:
                self.after_erasing[number] = self.steps_from_erased(unit)

    def steps_from_erased(self, unit):
        spot = (unit.place[0], unit.place[1], False)
        lengths = self.way_lengths(spot, unit.next_row_unit)
        return [self.best_step(lengths, unit.next_row_unit, colour) for colour in range(COLOURS)]

    def first_step(self):
        lengths = self.way_lengths(self.family.first_spot, 0)
        return self.best_step(lengths, 0, self.family.first_colour)

    def way_lengths(self, spot, first):
        ways = self.family.ways
        places = self.places[first:self.stops[first] + 1]
        return [len(ways.taken(spot, place)) for place in places]

    # The first choices are those that keep the longest, and then erase rather than write:
    # in this order they are tried, and a later one is taken only if it is shorter.
    def best_step(self, lengths, first, colour):
        best = None
        for number in range(self.stops[first], first - 1, -1):
            length = lengths[number - first]
            for step in self.steps_at(number, length, colour):
                if best is None or step[0] < best[0]:
                    best = step
        return best

    def steps_at(self, number, length, colour):
        if number == self.end:
            return [(length + len(painting(colour, self.family.goal_colour)), number, KEPT)]
        steps = []
        unit = self.units[number]
        if unit.erasable:
            to_come = self.after_erasing[number][colour][0]
            steps.append((length + len(erasing()) + to_come, number, ERASED))
        to_come = self.after_writing[number][0]
        steps.append((length + len(painting(colour, unit.colour)) + 1 + to_come, number, WRITTEN))
        return steps


def least_choices(family):
    search = Search(family)
    search.find_steps()
    choices = [KEPT] * search.end
    colour = family.first_colour
    step = search.first_step()
    while step[1] < search.end:
        number = step[1]
        choices[number] = step[2]
        if step[2] == ERASED:
            step = search.after_erasing[number][colour]
        else:
            step = search.after_writing[number]
            colour = family.units[number].colour
    return choices
