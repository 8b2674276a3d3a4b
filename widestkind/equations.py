"""Equations between measures: each of some measures is to become no measure.

Equations with few open names are put out first: each tells one name, which is put out of all other equations.
What is left is a question about columns of integers.
"""
from heapq import heappop, heappush
from math import gcd
from widestkind.lattices import Lattice
from widestkind.powers import add_times, measure_of, names_of
from widestkind.ratios import Ratio

# How many open names an equation may have to be put out by itself.
FEW = 30
LETTERS = "mnopqrstuvwxyzabcdefghijkl"


class Row:
    """An equation: the powers of the open names, and those of the rest."""

    def __init__(self, powers, rest):
        self.powers = powers
        self.rest = rest

    def take_in(self, other, count):
        """Adds another equation, so many times."""
        add_times(self.powers, other.powers, count)
        add_times(self.rest, other.rest, count)

    def divisor(self):
        """What all powers of open names have in common."""
        found = 0
        for number in self.powers.values():
            found = gcd(found, number)
        return found

    def weight_against(self, divisor):
        """The Ratio times which the equation shows that it has no solution, or None if it may have one."""
        for number in self.rest.values():
            if divisor == 0:
                return Ratio(1, 2 * number)
            if number % divisor != 0:
                return Ratio(1, divisor)
        return None

    def divide(self, divisor):
        """Divides all powers."""
        self.powers = {name: number // divisor for name, number in self.powers.items()}
        self.rest = {base: number // divisor for base, number in self.rest.items()}


class System:
    """Equations, of which those with few open names are put out one by one.

    `told` tells how names came of others, the last ones of those that are left: tuples of a name, the powers of
    names, and those of the rest. `deeds` has what was done to the equations: `(index, other, count)` for another
    one that was added so many times, and `(index, None, divisor)`. `weights` has a Ratio for an equation that has
    no solution.
    """

    def __init__(self, rows):
        self.rows = {index: row for index, row in enumerate(rows)}
        self.holders = {}
        for index, row in self.rows.items():
            for name in row.powers:
                self.holders.setdefault(name, {})[index] = True
        self.spread = {name: len(found) for name, found in self.holders.items()}
        self.told = []
        self.deeds = []
        self.weights = None
        self.queue = []
        for index in range(len(rows)):
            self._changed(index)

    def _changed(self, index):
        """Divides an equation that is new or has changed, and notes if it has no solution."""
        row = self.rows[index]
        if row.powers:
            heappush(self.queue, (len(row.powers), index))
        divisor = row.divisor()
        weight = row.weight_against(divisor)
        if weight is not None:
            if self.weights is None:
                self.weights = {index: weight}
        elif divisor > 1:
            row.divide(divisor)
            self.deeds.append((index, None, divisor))

    def _note(self, names, index):
        """Notes which of some names stand in an equation."""
        for name in names:
            if name in self.rows[index].powers:
                self.holders[name][index] = True
            elif index in self.holders[name]:
                del self.holders[name][index]

    def shortest(self):
        """The index of an equation with the fewest open names, or None if none has any."""
        while self.queue:
            many, index = self.queue[0]
            if index in self.rows and len(self.rows[index].powers) == many:
                return index
            heappop(self.queue)
        return None

    def _least(self, index):
        """The open name whose power in an equation is next to 0, of several the one in the fewest equations.

        That is, of those that are left, and then of those that were given: so that few names come of many others.
        """
        ranks = []
        for name, number in self.rows[index].powers.items():
            ranks.append((abs(number), len(self.holders[name]), self.spread[name], name))
        return min(ranks)[3]

    def put_out(self, index):
        """Lets an equation tell one of its names, and puts this name out of all others."""
        name = self._least(index)
        while abs(self.rows[index].powers[name]) != 1:
            self._exchange(index, name)
            name = self._least(index)
        row = self.rows.pop(index)
        for other in row.powers:
            del self.holders[other][index]
        sign = row.powers[name]
        for holder in list(self.holders[name]):
            count = -sign * self.rows[holder].powers[name]
            self.rows[holder].take_in(row, count)
            self.deeds.append((holder, index, count))
            self._note(row.powers, holder)
            self._changed(holder)
        powers = {other: -sign * number for other, number in row.powers.items() if other != name}
        self.told.append((name, powers, {base: -sign * number for base, number in row.rest.items()}))

    def _exchange(self, index, name):
        """Makes a name come of itself and others, so that the others get less powers than it in an equation."""
        powers = self.rows[index].powers
        counts = {}
        for other, number in powers.items():
            count = (2 * number + powers[name]) // (2 * powers[name])
            if other != name and count != 0:
                counts[other] = -count
        for holder in list(self.holders[name]):
            row = self.rows[holder]
            add_times(row.powers, counts, row.powers[name])
            self._note(counts, holder)
            if holder != index:
                heappush(self.queue, (len(row.powers), holder))
        self.told.append((name, {name: 1, **counts}, {}))


def open_names(equations, fixed):
    """The measure names in equations that are not fixed, in the order in which they first stand."""
    known = {name: True for name in fixed}
    return [name for name in names_of(equations) if name not in known]


def made_row(measure, known):
    """The Row of an equation, where `known` has the open names."""
    powers = {}
    rest = {}
    for factor, number in measure:
        if factor in known:
            powers[factor] = number
        else:
            rest[factor] = number
    return Row(powers, rest)


def put_out_all(system):
    """Puts out equations as long as some have few open names."""
    index = system.shortest()
    while system.weights is None and index is not None and len(system.rows[index].powers) <= FEW:
        system.put_out(index)
        index = system.shortest()


def lattice_of(rows, names):
    """The lattice of the columns of names, with a further row for each name, so that it tells its own making."""
    columns = {name: {len(rows) + index: 1} for index, name in enumerate(names)}
    for index, row in enumerate(rows):
        for name, number in row.powers.items():
            columns[name][index] = number
    lattice = Lattice()
    lattice.put_columns([columns[name] for name in names])
    return lattice


def paper_of(weights, deeds, many):
    """The measure paper of the given equations that comes of weights of those behind some deeds.

    Whole numbers in the weights make no difference, so that they are left out.
    """
    found = {index: Ratio(0) for index in range(many)}
    for index, weight in weights.items():
        found[index] = weight
    for index, other, count in deeds[::-1]:
        if other is None:
            found[index] = found[index].over(count)
        elif found[index] != 0:
            total = found[other] + found[index] * count
            found[other] = Ratio(total.top % total.bottom, total.bottom)
    return [Ratio(found[index].top % found[index].bottom, found[index].bottom) for index in range(many)]


def fresh_names(many, known):
    """So many measure names that are not known."""
    found = []
    index = 0
    while len(found) < many:
        block = index // 999
        letters = LETTERS[block % 26] * (block // 26 + 1)
        name = "'" + letters + str(index % 999 + 1)
        if name not in known:
            found.append(name)
        index += 1
    return found


def free_values(lattice, names, begin, known):
    """What names have of names that are not known, by the columns of the lattice that begin behind all equations."""
    values = {name: {} for name in names}
    rows = sorted([row for row in lattice.basis if row >= begin])
    for fresh, row in zip(fresh_names(len(rows), known), rows):
        for at, number in lattice.basis[row].items():
            values[names[at - begin]][fresh] = number
    return values


def value_of(powers, rest, values):
    """What a name is, told by the powers of names and those of the rest."""
    total = dict(rest)
    for name, number in powers.items():
        add_times(total, values[name], number)
    return total


def left_values(system, names, known):
    """The values of the names that a system has left, in which no known name stands.

    Or None, and the weights that show that there are none.
    """
    if not names:
        return {}, None
    indexes = sorted(system.rows)
    left = [system.rows[index] for index in indexes]
    lattice = lattice_of(left, names)
    values = free_values(lattice, names, len(left), known)
    bases = {base: True for row in left for base in row.rest}
    for base in bases:
        column = {at: -row.rest[base] for at, row in enumerate(left) if base in row.rest}
        failing = lattice.take_away(column, len(left))
        if failing is not None:
            weights = lattice.weights_against(column, failing)
            return None, {indexes[at]: weight for at, weight in weights.items()}
        lattice.bring_down(column, len(left))
        for at, number in column.items():
            values[names[at - len(left)]][base] = -number
    return values, None


def worked_out(equations, fixed):
    """A tuple of the dict that solves equations, or None, and of a measure paper of them, or None."""
    names = open_names(equations, fixed)
    known = {name: True for name in names}
    system = System([made_row(measure, known) for measure in equations])
    put_out_all(system)
    values, weights = None, system.weights
    if weights is None:
        told = {name: True for name, powers, _ in system.told if name not in powers}
        known.update({name: True for name in fixed})
        values, weights = left_values(system, [name for name in names if name not in told], known)
    if weights is not None:
        return None, paper_of(weights, system.deeds, len(equations))
    for name, powers, rest in system.told[::-1]:
        values[name] = value_of(powers, rest, values)
    return {name: measure_of(values[name]) for name in names}, None
