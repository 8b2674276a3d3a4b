"""The parts of a state of a run, with the places from which they came.

Names that are bound in a state have numbers, and definitions have none: so values, which have only definitions as
free names, are put in the place of names without being caught.
"""
from widestkind.names import words_for_binders
from widestkind.numberforms import ZERO, is_number_form
from widestkind.shapes import is_row, parts_of, rebuilt

# The indexes of the parts that are worked out ahead of a part.
WORKED = {
    "call": (0, 1),
    "let": (0,),
    "with": (0, 1),
    "field": (0,),
    "tag": (0,),
    "told": (0,),
    "match": (0,),
    "op": (0, 1),
}


class Cell:
    """A tree or a row of a state; of a row only its tree is a cell. It never changes.

    `shell` is a part with the same words, `source` its place, and `inner` are the cells directly within it. `bound` has
    for each of these the words that the part binds in it, and is empty if it binds none. `ready` tells whether it is
    a value. `loose` has the words with numbers that stand in it, but are not bound in it. `texts` has texts of it
    that are known, or is None.
    """

    def __init__(self, shell, source, inner, bound, loose):
        self.shell = shell
        self.source = source
        self.inner = inner
        self.bound = bound
        self.loose = loose
        self.ready = is_ready(shell, inner)
        self.texts = None


def number_tree(cell):
    """The tree of a cell of a number or of an operation on such, or None."""
    if cell.shell[0] == "number":
        return cell.shell
    if cell.shell[0] != "op" or not cell.ready:
        return None
    return (cell.shell[0], cell.shell[1], *[number_tree(one) for one in cell.inner])


def is_ready_op(sign, inner):
    """Whether an operation on cells is the form of a number."""
    if sign == "-" and inner[0].shell != ZERO or sign not in ("-", "/"):
        return False
    trees = [number_tree(one) for one in inner]
    return trees[0] is not None and trees[1] is not None and is_number_form(("op", sign, trees[0], trees[1]))


def is_ready(shell, inner):
    """Whether a part with cells within it is a value."""
    head = shell[0]
    if head == "fn":
        return True
    if head == "number":
        return is_number_form(shell)
    if head == "op":
        return is_ready_op(shell[1], inner)
    if head == "rec":
        return inner[1].shell == ("name", shell[1])
    if head not in ("record", "tag"):
        return False
    for one in inner:
        if not one.ready:
            return False
    return True


def bound_in(shell):
    """The tuple of the tuples of the words that a part binds in the cells within it; empty if it binds none."""
    if is_row(shell):
        words = tuple([part[1] for part in parts_of(shell[0]) if part[0] == "bind"])
        return (words,) if words else ()
    if shell[0] == "fn":
        return ((shell[1],),)
    if shell[0] == "let":
        return ((), (shell[1],))
    return ((shell[1], shell[2]), (shell[1],)) if shell[0] == "rec" else ()


def loose_words(shell, inner, bound):
    """The dict of True for the words with numbers that stand in a part and are not bound in it."""
    if not inner:
        return {shell[1]: True} if shell[0] == "name" and not "a" <= shell[1][-1] <= "z" else {}
    found = None
    for at, cell in enumerate(inner):
        loose = cell.loose
        if loose and bound and bound[at]:
            loose = {word: True for word in loose if word not in bound[at]}
        if loose:
            found = loose if found is None else {**found, **loose}
    return {} if found is None else found


def cell_of(source):
    """The cell of the tree of a Source, in which names that are bound get numbers.

    The parts within a shell keep their words, but those of patterns, which are no cells.
    """
    words = words_for_binders(source.steps, source.marks)
    made = {}
    for number in list(range(len(source.steps)))[::-1]:
        part = source.steps[number]
        mark = source.marks[number]
        if number in words:
            part = (part[0], *words[number], *part[1 + len(words[number]):])
        if mark is not None:
            part = ("name", words[mark[0]][mark[1]])
        inner = [made.pop(one) for one in source.inner[number]]
        if number in source.patterns:
            made[number] = rebuilt(part, inner) if inner else part
            continue
        if number in source.matches:
            part = (inner[0], part[1])
            inner = inner[1:]
        bound = bound_in(part)
        made[number] = Cell(part, source.origins[number], tuple(inner), bound, loose_words(part, inner, bound))
    return made[0]


def folded_cell(cell, combine):
    """What `combine` makes of a cell and of what it has made of the cells directly within it."""
    done = []
    waiting = [(cell, False)]
    while waiting:
        one, ready = waiting.pop()
        if one.inner and not ready:
            waiting.append((one, True))
            waiting.extend([(inner, False) for inner in one.inner[::-1]])
        else:
            first = len(done) - len(one.inner)
            made = combine(one, done[first:])
            del done[first:]
            done.append(made)
    return done[0]


def tree_of_cell(cell):
    """The tree of a cell."""
    def combined(one, inner):
        if is_row(one.shell):
            return (one.shell[0], inner[0])
        return rebuilt(one.shell, inner)

    return folded_cell(cell, combined)


def has_some(loose, values):
    """Whether some of the words that stand in a cell are those of values."""
    for word in loose:
        if word in values:
            return True
    return False


def put_within(cell, values, todo):
    """The cells within a cell, with values in the place of words; and which of them are still to be made.

    These are put into `todo`, and told as tuples of the index among the cells within, and of that in `todo`.
    """
    found = []
    later = []
    for at, inner in enumerate(cell.inner):
        if inner.loose:
            if inner.shell[0] == "name":
                inner = values.get(inner.shell[1], inner)
            elif has_some(inner.loose, values):
                later.append((at, len(todo)))
                todo.append(inner)
        found.append(inner)
    return found, later


def put_for(cell, values):
    """The cell with values, in which no words are loose, in the place of words, as a dict tells.

    No word of these is bound anew where it is loose, as what binds words in one tree binds all unlike ones.
    """
    if not has_some(cell.loose, values):
        return cell
    if cell.shell[0] == "name":
        return values[cell.shell[1]]
    todo = [cell]
    within = []
    while len(within) < len(todo):
        within.append(put_within(todo[len(within)], values, todo))
    made = [None for _ in todo]
    number = len(todo)
    while number > 0:
        number -= 1
        one = todo[number]
        inner, later = within[number]
        for at, index in later:
            inner[at] = made[index]
        loose = {word: True for word in one.loose if word not in values}
        made[number] = Cell(one.shell, one.source, tuple(inner), one.bound, loose)
    return made[0]


def next_worked(cell):
    """The index of the first cell within a cell that is to be worked out ahead of it, or None."""
    worked = WORKED.get(cell.shell[0], ())
    for at, inner in enumerate(cell.inner):
        if not inner.ready and (at in worked or cell.shell[0] == "record"):
            return at
    return None


def with_inner(cell, at, other):
    """The cell, in which no words are loose, with another one in the place of the one with an index within it."""
    return Cell(cell.shell, cell.source, (*cell.inner[:at], other, *cell.inner[at + 1:]), cell.bound, {})
