"""The one row of measures that is told for all rows of measures that come of it by turning names and back."""
from widestkind.lattices import Lattice
from widestkind.powers import is_name, measure_of


def columns_of(measures):
    """The dict from the factors of a list of measures to their columns: their powers by the indexes of measures."""
    found = {}
    for row, measure in enumerate(measures):
        for factor, number in measure:
            found.setdefault(factor, {})[row] = number
    return found


def turned(measures):
    """The list of measures that is told for a list of measures, with measure names `'m1`, `'m2` and so on."""
    columns = columns_of(measures)
    lattice = Lattice()
    lattice.put_columns([column for factor, column in columns.items() if is_name(factor)])
    lattice.settle()
    made = [{} for measure in measures]
    for index, begin in enumerate(sorted(lattice.basis)):
        for row, number in lattice.basis[begin].items():
            made[row]["'m" + str(index + 1)] = number
    for factor, column in columns.items():
        if not is_name(factor):
            lattice.bring_down(column, 0)
            for row, number in column.items():
                made[row][factor] = number
    return [measure_of(table) for table in made]
