"""The parts of a state of a run, with the places from which they came.

Names that are bound in a state have numbers, and definitions have none: so values, which have only definitions as
free names, are put in the place of names without being caught.
"""
from widestkind.exchanges import pattern_numbers
from widestkind.names import bound_words, with_plain_names
from widestkind.numberforms import is_number_form
from widestkind.shapes import is_row, numbers_within, parts_in, parts_of, rebuilt, sizes_of
from widestkind.words import is_plain_word

# The indexes of the parts that are worked out ahead of a part.
WORKED = {
    "call": (0, 1),
    "let": (0,),
    "with": (0, 1),
    "field": (0,),
    "tag": (0,),
    "told": (0,),
    "match": (0,),
    "op": (0, 1),
}


class Cell:
    """A tree or a row of a state; of a row only its tree is a cell.

    `shell` is a part with the same words, `source` its place, and `inner` are the cells directly within it. `ready`
    tells whether it is a value. `loose` has the words with numbers that stand in it, but are not bound in it.
    """

    def __init__(self, shell, source, inner):
        self.shell = shell
        self.source = source
        self.inner = inner
        self.ready = is_ready(shell, inner)
        self.loose = loose_words(shell, inner)


def number_tree(cell):
    """The tree of a cell of a number or of an operation on such, or None."""
    if cell.shell[0] == "number":
        return cell.shell
    if cell.shell[0] != "op" or not cell.ready:
        return None
    return (cell.shell[0], cell.shell[1], *[number_tree(one) for one in cell.inner])


def is_ready(shell, inner):
    """Whether a part with cells within it is a value."""
    if is_row(shell):
        return False
    head = shell[0]
    if head == "number":
        return is_number_form(shell)
    if head == "op":
        trees = [number_tree(one) for one in inner]
        return None not in trees and is_number_form((shell[0], shell[1], trees[0], trees[1]))
    if head == "rec":
        return inner[1].shell == ("name", shell[1])
    return head == "fn" or head in ("record", "tag") and all([one.ready for one in inner])


def words_of_row(row):
    """The words that the pattern of a row binds."""
    return [part[1] for part in parts_of(row[0]) if part[0] == "bind"]


def caught(shell, at):
    """The words that a part binds in the part directly within it with an index."""
    if is_row(shell):
        return words_of_row(shell)
    if shell[0] == "let" and at == 0:
        return []
    if shell[0] == "rec" and at == 1:
        return [shell[1]]
    return bound_words(shell)


def loose_words(shell, inner):
    """The dict of True for the words with numbers that stand in a part and are not bound in it."""
    if not is_row(shell) and shell[0] == "name":
        return {} if is_plain_word(shell[1]) else {shell[1]: True}
    found = {}
    for at, cell in enumerate(inner):
        if cell.loose:
            bound = caught(shell, at)
            for word in cell.loose:
                if word not in bound:
                    found[word] = True
    return found


def cell_of(tree, places):
    """The cell of a tree of which the places are told, in which names that are bound get numbers."""
    steps = parts_of(with_plain_names(tree))
    sizes = sizes_of(steps)
    patterns = pattern_numbers(tree)
    cells = {}
    for number in list(range(len(steps)))[::-1]:
        part = steps[number]
        if number not in patterns or is_row(part):
            within = numbers_within(number, len(parts_in(part)), sizes)
            inner = [cells[one] for one in within if one in cells]
            cells[number] = Cell(part, places[number], tuple(inner))
    return cells[0]


def folded_cell(cell, combine):
    """What `combine` makes of a cell and of what it has made of the cells directly within it."""
    done = []
    waiting = [(cell, False)]
    while waiting:
        one, ready = waiting.pop()
        if one.inner and not ready:
            waiting.append((one, True))
            waiting.extend([(inner, False) for inner in one.inner[::-1]])
        else:
            first = len(done) - len(one.inner)
            made = combine(one, done[first:])
            del done[first:]
            done.append(made)
    return done[0]


def tree_of_cell(cell):
    """The tree of a cell."""
    def combined(one, inner):
        if is_row(one.shell):
            return (one.shell[0], inner[0])
        return rebuilt(one.shell, inner)

    return folded_cell(cell, combined)


def put_for(cell, table):
    """The cell with values in the place of words, as a dict tells."""
    done = []
    waiting = [(cell, table, False)]
    while waiting:
        one, values, ready = waiting.pop()
        if not any([word in values for word in one.loose]):
            done.append(one)
        elif one.shell[0] == "name":
            done.append(values[one.shell[1]])
        elif ready:
            first = len(done) - len(one.inner)
            made = Cell(one.shell, one.source, tuple(done[first:]))
            del done[first:]
            done.append(made)
        else:
            waiting.append((one, values, True))
            for at in list(range(len(one.inner)))[::-1]:
                bound = caught(one.shell, at)
                left = {word: value for word, value in values.items() if word not in bound}
                waiting.append((one.inner[at], left, False))
    return done[0]


def next_worked(cell):
    """The index of the first cell within a cell that is to be worked out ahead of it, or None."""
    for at, inner in enumerate(cell.inner):
        if not inner.ready and (cell.shell[0] == "record" or at in WORKED.get(cell.shell[0], ())):
            return at
    return None


def with_inner(cell, at, other):
    """The cell with another one in the place of the one with an index within it."""
    return Cell(cell.shell, cell.source, (*cell.inner[:at], other, *cell.inner[at + 1:]))
