"""Whether rows hold together at some point: a point, or weights that show that they do not.

The sum of each row without its constant is a variable of its own, the line's: it has to be
at least, or above, the constant's negative, its bound. In a tableau some variables, the
basic ones, are told by the others. Lines among the others stay at their bounds, just
above them if they are to be above; they are exchanged until all lines keep their bounds.
"""

from answerlines.fractions import compared, lowest
from answerlines.rows import divided


class Tableau:
    """Each basic variable, times scale, as a sum of the others, each times an integer."""

    def __init__(self, k, lines):
        self.lines = lines
        self.table = [list(numbers[1:]) for _, numbers in lines]
        # Lines are named by their places, unknowns by the places behind these.
        self.basic = list(range(len(lines)))
        self.others = list(range(len(lines), len(lines) + k))
        self.scale = 1

    def exchange(self, i, j):
        """Make the basic variable at i one of the others, at j, and the one there basic."""
        pivot = self.table[i][j]
        sign = 1 if pivot > 0 else -1
        turned = [-sign * number for number in self.table[i]]
        turned[j] = sign * self.scale
        table = []
        for row in self.table:
            # All integers stay determinants of the lines' numbers, so this comes out even.
            left = [sign * (pivot * a - row[j] * b) // self.scale for a, b in zip(row, self.table[i])]
            left[j] = sign * row[j]
            table.append(left)
        table[i] = turned
        self.table = table
        self.scale = abs(pivot)
        self.basic[i], self.others[j] = self.others[j], self.basic[i]

    def bound(self, variable):
        """Return the bound of variable, a pair of a number and how far it is above it."""
        if variable >= len(self.lines):
            return (0, 0)
        word, numbers = self.lines[variable]
        return (-numbers[0], 1 if word == "gt" else 0)

    def worth(self, i):
        """Return the worth of the basic variable at i, times scale, as bound tells it."""
        number, above = 0, 0
        for by, variable in zip(self.table[i], self.others):
            base, more = self.bound(variable)
            number += by * base
            above += by * more
        return (number, above)

    def room(self, i):
        """Return by how much the line at i is within its bound, times scale, as bound tells it."""
        number, above = self.worth(i)
        base, more = self.bound(self.basic[i])
        return (number - base * self.scale, above - more * self.scale)


def judged(k, lines):
    """Return the pair (weights, point) of lines, rows of k unknowns: one is None."""
    tableau = Tableau(k, lines)
    _free_unknowns(tableau)
    while True:
        wrong = [(tableau.basic[i], i) for i in _lines_at(tableau) if tableau.room(i) < (0, 0)]
        if not wrong:
            return (None, _point(k, tableau))
        # Always the first ones: so it never comes back to where it was (Bland's rule).
        i = min(wrong)[1]
        rising = [(variable, j) for j, variable in enumerate(tableau.others) if tableau.table[i][j] > 0]
        if not rising:
            return (_weights(tableau, i), None)
        tableau.exchange(i, min(rising)[1])


def _lines_at(tableau):
    """Return the places of the lines among the basic variables."""
    return [i for i, variable in enumerate(tableau.basic) if variable < len(tableau.lines)]


def _free_unknowns(tableau):
    """Make each unknown basic, but for those of which no line hangs on by then."""
    for j in range(len(tableau.others)):
        spots = [i for i in _lines_at(tableau) if tableau.table[i][j] != 0]
        if spots:
            tableau.exchange(spots[0], j)


def _weights(tableau, i):
    """Return the weights by which the line at i and the others add up to what is false."""
    numbers = [0] * len(tableau.lines)
    numbers[tableau.basic[i]] = tableau.scale
    for by, variable in zip(tableau.table[i], tableau.others):
        if by != 0:
            numbers[variable] = -by
    return tuple([(number, 1) for number in divided(numbers)])


def _point(k, tableau):
    """Return a point at which all lines hold, tableau's being within their bounds."""
    step = (1, 1)
    for i in _lines_at(tableau):
        number, above = tableau.room(i)
        if above < 0 and compared((number, -above), step) < 0:
            step = lowest(number, -above)
    point = [(0, 1)] * k
    for i, variable in enumerate(tableau.basic):
        if variable >= len(tableau.lines):
            number, above = tableau.worth(i)
            worth = lowest(number * step[1] + above * step[0], tableau.scale * step[1])
            point[variable - len(tableau.lines)] = worth
    return tuple(point)
