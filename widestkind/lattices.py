"""Columns of integers, and what comes of adding and subtracting some of them.

A column is a dict from row numbers to integers other than 0.
"""
from heapq import heapify, heappop, heappush
from widestkind.powers import add_times
from widestkind.ratios import Ratio

# How many columns may have something at a row to be put in at once.
FEW = 30
# How many times as great as it must be a number in the basis may become, so that not all columns change all the time.
SLACK = 65536


class Lattice:
    """The columns that are sums of multiples of the columns that were put in.

    The basis has, for a row, the column that begins there, with a number above 0; no two begin at one row.
    """

    def __init__(self):
        self.basis = {}

    def put_columns(self, given):
        """Puts in columns: row by row as long as few of them have something at a row, then the smallest first."""
        begun = {}
        for column in given:
            if column:
                begun.setdefault(min(column), []).append(dict(column))
        rows = list(begun)
        heapify(rows)
        while rows and len(begun[rows[0]]) <= FEW:
            row = heappop(rows)
            for column in self._put_row(begun.pop(row), row):
                first = min(column)
                if first not in begun:
                    begun[first] = []
                    heappush(rows, first)
                begun[first].append(column)
        self._put_smallest([column for row in sorted(begun) for column in begun[row]])

    def _put_smallest(self, columns):
        """Puts in columns one by one, the smallest first."""
        greatest = [max([abs(number) for number in column.values()]) for column in columns]
        for _, _, index in sorted([(len(column), greatest[at], at) for at, column in enumerate(columns)]):
            self.put_column(columns[index])

    def _put_row(self, columns, row):
        """Puts in what begins at a row; returns the columns that are left behind it."""
        left = []
        while len(columns) > 1:
            at = min([(abs(column[row]), len(column), index) for index, column in enumerate(columns)])[2]
            pivot = columns[at]
            others = columns[:at] + columns[at + 1:]
            for column in others:
                add_times(column, pivot, -nearest(column[row], pivot[row]))
            left.extend([column for column in others if column and row not in column])
            columns = [pivot] + [column for column in others if row in column]
        sign = -1 if columns[0][row] < 0 else 1
        self.basis[row] = {at: sign * number for at, number in columns[0].items()}
        return left

    def put_column(self, given):
        """Puts in one more column."""
        column = dict(given)
        changed = []
        while column:
            row = min(column)
            if row not in self.basis:
                self.basis[row] = self._positive(column, row)
                changed.append(row)
                break
            pivot = self.basis[row]
            if column[row] % pivot[row] == 0:
                add_times(column, pivot, -(column[row] // pivot[row]))
            else:
                column = self._exchange(column, row)
                changed.append(row)
        self._trim(changed)

    def _positive(self, column, row):
        """The column, or its opposite, with a number above 0 at its first row, brought near."""
        sign = -1 if column[row] < 0 else 1
        made = {at: sign * number for at, number in column.items()}
        self.bring_near(made, row + 1)
        return made

    def _exchange(self, column, row):
        """Makes the number at the row of the basis the common divisor; returns what is left of the column."""
        pivot = self.basis[row]
        one, other = pivot[row], column[row]
        divisor, times_one, times_other = common_divisor(one, other)
        made = {}
        add_times(made, pivot, times_one)
        add_times(made, column, times_other)
        left = {}
        add_times(left, column, one // divisor)
        add_times(left, pivot, -(other // divisor))
        self.bring_near(made, row + 1)
        self.bring_near(left, row + 1)
        self.basis[row] = made
        return left

    def _trim(self, changed):
        """Brings near what has become too great by the change of some rows, so that numbers stay small."""
        for row in changed:
            bound = self.basis[row][row]
            for begin in sorted(self.basis):
                if begin < row and abs(self.basis[begin].get(row, 0)) > bound * SLACK:
                    self.bring_near(self.basis[begin], row)

    def _rows_of(self, column, begin):
        """A heap of the rows of the basis, from `begin` on, at which a column has something; and a dict of them."""
        rows = [row for row in column if row >= begin and row in self.basis]
        heapify(rows)
        return rows, {row: True for row in rows}

    def _note_behind(self, begin, rows, noted):
        """Puts the rows of the basis at which the column of a row has something into a heap and a dict of rows."""
        for row in self.basis[begin]:
            if row > begin and row not in noted and row in self.basis:
                noted[row] = True
                heappush(rows, row)

    def bring_near(self, column, begin):
        """Takes multiples of the basis away where the column has great numbers at its rows from `begin` on.

        Small numbers stay, also those below 0, so that columns with few numbers keep few.
        """
        rows, noted = self._rows_of(column, begin)
        while rows:
            row = heappop(rows)
            pivot = self.basis[row]
            if abs(column.get(row, 0)) > pivot[row] * SLACK:
                add_times(column, pivot, -nearest(column[row], pivot[row]))
                self._note_behind(row, rows, noted)

    def bring_down(self, column, begin):
        """Takes multiples of the basis away until each number at its rows from `begin` on is right.

        That is, from 0 to less than the number with which the column of the basis begins there.
        """
        rows, noted = self._rows_of(column, begin)
        while rows:
            row = heappop(rows)
            pivot = self.basis[row]
            if not 0 <= column.get(row, 0) < pivot[row]:
                add_times(column, pivot, -(column[row] // pivot[row]))
                self._note_behind(row, rows, noted)

    def settle(self):
        """Brings all columns of the basis down, by which it becomes the only one of this sort."""
        for row in sorted(self.basis, reverse=True):
            self.bring_down(self.basis[row], row + 1)

    def take_away(self, column, end):
        """Takes multiples of the basis away until the column has nothing ahead of the row `end`.

        Returns the row at which that cannot be done, or None.
        """
        while column:
            row = min(column)
            if row >= end:
                return None
            pivot = self.basis.get(row)
            if pivot is None or column[row] % pivot[row] != 0:
                return row
            add_times(column, pivot, -(column[row] // pivot[row]))
        return None

    def weights_against(self, column, row):
        """Ratios for rows, for a column with which `take_away` has come as far as the row.

        The sum of these times the numbers is an integer for each column of the lattice, but not for this one.
        """
        if row in self.basis:
            found = {row: Ratio(1, self.basis[row][row])}
        else:
            found = {row: Ratio(1, 2 * column[row])}
        for begin in sorted([begin for begin in self.basis if begin < row], reverse=True):
            pivot = self.basis[begin]
            total = Ratio(0)
            for at, weight in found.items():
                total = total + weight * pivot.get(at, 0)
            if total != 0:
                found[begin] = total.over(-pivot[begin])
        return found


def nearest(one, other):
    """The integer next to the quotient of two integers."""
    return (2 * one + other) // (2 * other)


def common_divisor(one, other):
    """The greatest common divisor of two integers, and how often to add each of them to get it."""
    first, second = (one, 1, 0), (other, 0, 1)
    while second[0] != 0:
        count = first[0] // second[0]
        left = (first[0] - count * second[0], first[1] - count * second[1], first[2] - count * second[2])
        first, second = second, left
    if first[0] < 0:
        return -first[0], -first[1], -first[2]
    return first
