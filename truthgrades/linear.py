"""Rows of fractions: a point that meets all of them, or shares that show that none does.

Shares are looked for, numbers from 0 on, one for each row, and a rest from 0 on beside them, so
that of the rows, each its share times, the numbers of each unknown come to 0; the last numbers,
with the rest, to 0; and the shares of the strict rows, with the rest, to 1. Just such shares show
that no point meets all. Each of these sums is a line of the search, each row and the rest a
column. Where there are no such shares the search ends with a number for each line, and these
tell a point.
"""

from truthgrades.fractions import fraction, plus, shared_part, sum_of_products


def meets(row, point):
    """Whether a point meets a row."""
    reached = plus(sum_of_products(row[0], point), row[1])
    return reached[0] > 0 if row[2] else reached[0] >= 0


def meeting(rows, many):
    """("met", point), or ("unmet", shares), of rows with many unknowns."""
    bottoms = [common_bottom(row) for row in rows]
    columns = [column_for(row, bottom) for row, bottom in zip(rows, bottoms)]
    rest = [0 for unknown in range(many)] + [1, 1]
    search = Search(columns + [rest])
    search.run()
    if search.is_found():
        return ("unmet", shares_by(search, bottoms))
    return ("met", point_by(search, many))


def common_bottom(row):
    """A whole number from 1 on that makes all numbers of a row whole."""
    bottom = 1
    for part in row[0] + (row[1],):
        bottom = bottom * part[1] // shared_part(bottom, part[1])
    return bottom


def column_for(row, bottom):
    """What a row, so many times, gives to each line."""
    numbers = [part[0] * (bottom // part[1]) for part in row[0] + (row[1],)]
    return numbers + [1 if row[2] else 0]


def shares_by(search, bottoms):
    """The shares that were found, times a number that makes them whole and small."""
    wholes = [0 for bottom in bottoms]
    for line, column in zip(search.lines, search.basis):
        if column < len(bottoms):
            wholes[column] = line[-1] * bottoms[column]
    shared = 0
    for whole in wholes:
        if whole > 0:
            shared = shared_part(whole, shared)
    return tuple([fraction(whole, shared) for whole in wholes])


def point_by(search, many):
    """The point that is told where there are no shares.

    The number of a line is the cost of its own column, less the scale. These numbers, times those
    of a given column and added up, come to 0 or more; the last line's is below 0. So by the column
    of the rest the number behind the unknowns' is above 0; and by a row's column the unknowns'
    numbers, divided by it, meet the row, a strict one with something to spare.
    """
    first = len(search.costs) - 1 - len(search.lines)
    numbers = [cost - search.scale for cost in search.costs[first:-1]]
    return tuple([fraction(numbers[unknown], numbers[many]) for unknown in range(many)])


class Search:
    """The simplex way, in whole numbers: every number here is to be read as divided by the scale.

    Behind the given columns each line has one of its own, which costs 1 where the given ones cost
    nothing; what is sought is found where nothing is left of these. The last column is the sums.
    """

    def __init__(self, columns):
        height = len(columns[0])
        self.given = len(columns)
        self.lines = []
        for number in range(height):
            own = [1 if other == number else 0 for other in range(height)]
            due = 1 if number == height - 1 else 0
            self.lines.append([column[number] for column in columns] + own + [due])
        self.costs = [-sum(column) for column in columns] + [0 for number in range(height)] + [-1]
        self.basis = [self.given + number for number in range(height)]
        self.scale = 1

    def is_found(self):
        return self.costs[-1] == 0

    def run(self):
        column = self.entering()
        while column is not None and not self.is_found():
            self.take(self.leaving(column), column)
            column = self.entering()

    def entering(self):
        """The first given column that makes what is left less, or None."""
        # Always the first one, here and among those that leave: so no round is walked again.
        for column in range(self.given):
            if self.costs[column] < 0:
                return column
        return None

    def leaving(self, column):
        """The line that bounds most narrowly how much of a column can be taken."""
        least = None
        for number in range(len(self.lines)):
            if self.lines[number][column] > 0 and (least is None or self.is_narrower(number, least, column)):
                least = number
        return least

    def is_narrower(self, number, other, column):
        bound = self.lines[number][-1] * self.lines[other][column]
        other_bound = self.lines[other][-1] * self.lines[number][column]
        if bound == other_bound:
            return self.basis[number] < self.basis[other]
        return bound < other_bound

    def take(self, number, column):
        """Brings a column into the basis in the place of a line's one."""
        chosen = self.lines[number]
        self.costs = without_column(self.costs, chosen, column, self.scale)
        others = []
        for other, line in enumerate(self.lines):
            others.append(line if other == number else without_column(line, chosen, column, self.scale))
        self.lines = others
        self.basis[number] = column
        self.scale = chosen[column]


def without_column(line, chosen, column, scale):
    """A line from which so much of the chosen one is taken that it has nought in a column.

    By the new scale, the chosen line's number there; the division by the old one leaves no rest.
    """
    pivot = chosen[column]
    share = line[column]
    return [(cell * pivot - share * other) // scale for cell, other in zip(line, chosen)]
