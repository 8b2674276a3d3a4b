"""Runs of texts, step by step."""
from widestkind.cells import Cell, cell_of, next_worked, number_tree, put_for, with_inner
from widestkind.numberforms import ZERO, form_of, number_of, worked_out
from widestkind.shapes import parts_in

EMPTY = ("record", ())


def whole_cell(tree, source):
    """The cell of a tree all of whose parts come from one place."""
    if tree[0] == "number":
        return Cell(tree, source, (), (), {})
    return Cell(tree, source, tuple([whole_cell(inner, source) for inner in parts_in(tree)]), (), {})


def fitting(pattern, cell):
    """The dict from the words of a pattern to the parts of a value that it fits, or None if it does not."""
    found = {}
    waiting = [(pattern, cell)]
    while waiting:
        one, value = waiting.pop()
        if one[0] == "bind":
            found[one[1]] = value
        elif one[0] == "tag":
            if value.shell[0] != "tag" or value.shell[1] != one[1]:
                return None
            waiting.append((one[2], value.inner[0]))
        elif one[0] == "record":
            entries = entries_of(value)
            for label, inner in one[1]:
                if entries is None or label not in entries:
                    return None
                waiting.append((inner, entries[label]))
            if entries is None:
                return None
    return found


def entries_of(cell):
    """The dict from the labels of a record to its entries, or None if a cell is no record."""
    if cell.shell[0] != "record":
        return None
    return {entry[0]: inner for entry, inner in zip(cell.shell[1], cell.inner)}


class Machine:
    """A run: the part that is worked out, the parts around it, and how many calls are left.

    `around` has tuples of a cell and the index of the one within it that is worked out. `end` is how the run ends, or
    None.
    """

    def __init__(self, whole, budget):
        self.book = whole.book
        self.calls = budget
        self.defined = {}
        self.around = []
        self.focus = cell_of(whole.source_of_text())
        self.end = None

    def state(self):
        """The cell of the state."""
        cell = self.focus
        for above, at in self.around[::-1]:
            cell = with_inner(above, at, cell)
        return cell

    def go_on(self):
        """Goes to the part that changes next, and changes it, unless the run ends there."""
        while self.end is None:
            if self.focus.ready:
                if not self.around:
                    self.end = ("done",)
                    return
                above, at = self.around.pop()
                self.focus = with_inner(above, at, self.focus)
                continue
            at = next_worked(self.focus)
            if at is None:
                self._step()
                return
            self.around.append((self.focus, at))
            self.focus = self.focus.inner[at]

    def _step(self):
        """Changes the part that is worked out, of which the parts within it are values."""
        cell = self.focus
        head = cell.shell[0]
        if head == "name":
            self._call(self._definition, cell.shell[1])
        elif head == "number":
            self._put_number(ZERO if cell.shell[1] == 0 else None)
        elif head == "fail":
            self.end = ("fault", cell.shell[1])
        elif head == "call":
            self._step_call(cell)
        elif head == "let":
            self.focus = put_for(cell.inner[1], {cell.shell[1]: cell.inner[0]})
        elif head == "rec":
            name = ("name", cell.shell[1])
            inner = (cell.inner[0], Cell(name, cell.source, (), (), {cell.shell[1]: True}))
            value = Cell((*cell.shell[:4], name), cell.source, inner, cell.bound, {})
            self.focus = put_for(cell.inner[1], {cell.shell[1]: value})
        elif head == "told":
            self.focus = cell.inner[0]
        elif head == "match":
            self._step_match(cell)
        elif head == "op":
            self._step_op(cell)
        else:
            self._step_record(cell)

    def _call(self, make, given):
        """Does a call, if one is left: what is called is made of what is given."""
        if self.calls == 0:
            self.end = ("dry",)
        else:
            self.calls -= 1
            self.focus = make(given)

    def _definition(self, name):
        """The cell of a definition."""
        if name not in self.defined:
            self.defined[name] = cell_of(self.book.source_of(name))
        return self.defined[name]

    def _stick(self, word):
        self.end = (word, self.focus.source)

    def _step_call(self, cell):
        called = cell.inner[0]
        if called.shell[0] in ("fn", "rec"):
            self._call(called_body, cell)
        else:
            self._stick("stuck")

    def _step_record(self, cell):
        """Does the step of a field or of a record with another entry."""
        record = cell.inner[0]
        entries = entries_of(record)
        if entries is None or cell.shell[2] not in entries:
            self._stick("stuck")
        elif cell.shell[0] == "field":
            self.focus = entries[cell.shell[2]]
        else:
            at = list(entries).index(cell.shell[2])
            self.focus = with_inner(record, at, cell.inner[1])

    def _step_match(self, cell):
        for row in cell.inner[1:]:
            found = fitting(row.shell[0], cell.inner[0])
            if found is not None:
                self.focus = put_for(row.inner[0], found)
                return
        self._stick("missed")

    def _put_number(self, form):
        """Puts the form of a number in the place of a part; None is that of a number that has none."""
        if form is None:
            self.end = ("fault", "great")
        else:
            self.focus = whole_cell(form, self.focus.source)

    def _step_op(self, cell):
        first, second = [number_tree(inner) for inner in cell.inner]
        if first is None or second is None:
            self._stick("stuck")
            return
        one, other = number_of(first), number_of(second)
        sign = cell.shell[1]
        if sign == "/" and other[0] == 0:
            self.end = ("fault", "zero")
            return
        found = worked_out("-" if sign == "<" else sign, one, other)
        if found is None:
            self._stick("stuck")
        elif sign == "<":
            self.focus = whole_cell(("tag", "Yes" if found[0] < 0 else "No", EMPTY), cell.source)
        else:
            self._put_number(form_of(*found))


def called_body(cell):
    """The tree of the function of a call, with the value in the place of its word."""
    called, given = cell.inner
    if called.shell[0] == "fn":
        return put_for(called.inner[0], {called.shell[1]: given})
    return put_for(called.inner[0], {called.shell[1]: called, called.shell[2]: given})
