"""Runs of texts, and texts in other units."""
from widestkind.cells import tree_of_cell
from widestkind.errors import BadBudget, BadUnits, TooMany
from widestkind.exchanges import changed_whole, tree_with_all
from widestkind.machine import Machine
from widestkind.names import plain_text
from widestkind.numberforms import form_of, is_number_form, number_of
from widestkind.ratios import Ratio, terms
from widestkind.shapes import folded, parts_of, rebuilt, sizes_of
from widestkind.statetexts import Writer
from widestkind.words import is_integer, is_word

MOST_CALLS = 100


def check_budget(budget):
    """Raises BadBudget unless any value is a number of calls that a run may do."""
    if not is_integer(budget) or not 0 <= budget <= MOST_CALLS:
        raise BadBudget(budget)


def in_functions(tree):
    """The dict of True for the numbers of the parts within functions of a value."""
    steps = parts_of(tree)
    sizes = sizes_of(steps)
    found = {}
    for number, part in enumerate(steps):
        if part[0] in ("fn", "rec"):
            for inner in range(number + 1, number + sizes[number]):
                found[inner] = True
    return found


def in_order(tree):
    """The value in which the entries of records outside of functions stand in the order of their labels."""
    within = in_functions(tree)

    def ordered(part, number, inner):
        made = rebuilt(part, inner)
        if part[0] != "record" or number in within:
            return made
        return ("record", tuple(sorted(made[1], key=lambda entry: entry[0])))

    return folded(tree, ordered)


def run(whole, budget):
    """How a run with so many calls ends."""
    check_budget(budget)
    machine = Machine(whole, budget)
    while machine.end is None:
        machine.go_on()
    if machine.end[0] == "done":
        return ("done", plain_text(in_order(tree_of_cell(machine.state()))))
    return machine.end


def states(whole, budget):
    """The list of the texts of all states of a run with so many calls."""
    check_budget(budget)
    machine = Machine(whole, budget)
    writer = Writer()
    found = []
    while machine.end is None:
        found.append(writer.write(machine.state()))
        machine.go_on()
    return found


def check_units(units):
    """Raises BadUnits unless any value is a dict from words to integers or Ratios above 0."""
    if not isinstance(units, dict):
        raise BadUnits(units)
    for word, factor in units.items():
        if not is_word(word) or not isinstance(factor, Ratio) and not is_integer(factor):
            raise BadUnits(units)
        if terms(factor)[0] <= 0:
            raise BadUnits(units)


def changed_form(form, units):
    """The form of the number with a form, multiplied by the factor of its measure, or None if it has none."""
    top, bottom, measure = number_of(form)
    for word, number in measure:
        over, under = terms(units.get(word, 1))
        if number < 0:
            over, under = under, over
        for _ in range(abs(number)):
            top = top * over
            bottom = bottom * under
    return form_of(top, bottom, measure)


def forms_in(tree):
    """The list of the tuples of the numbers and the forms of numbers in a tree that are not part of greater ones."""
    steps = parts_of(tree)
    sizes = sizes_of(steps)
    found = []
    number = 0
    while number < len(steps):
        if is_number_form(steps[number]):
            found.append((number, steps[number]))
            number += sizes[number]
        else:
            number += 1
    return found


def owners_of(book):
    """The list of `""`, for the text, and of the owners of the parts in the lines of a book, in their order."""
    owners = [line.home() for line in book.lines_read()]
    return ["", *[owner for owner in owners if owner is not None]]


def in_units(whole, units):
    """The whole in which the base measures are told in other units."""
    check_units(units)
    trees = {}
    count = 0
    for owner in owners_of(whole.book):
        tree = whole.tree_at(owner)
        table = {}
        for number, form in forms_in(tree):
            changed = changed_form(form, units)
            if changed is None:
                raise TooMany(count)
            if changed != form:
                table[number] = changed
            count += 1
        if table:
            trees[owner] = tree_with_all(tree, table)
    return changed_whole(whole, trees)
