"""The texts of states of a run, in which the names that are bound are `x1`, `x2` and so on, in their order.

Texts of cells are kept with them, as most cells of a state are those of the state ahead of it.
"""
from widestkind.shapes import folded, is_row, rebuilt
from widestkind.trees import part_text


def pattern_text(pattern, words):
    """The text of a pattern with other words in the place of those that it binds, as a dict tells."""
    def text_in(part, number, texts):
        return words[part[1]] if part[0] == "bind" else part_text(part, texts)

    return folded(pattern, text_in)


def shallow(cell):
    """A part built like the tree of a cell as far as the text around it hangs on this."""
    if cell.shell[0] == "tag":
        return ("tag", cell.shell[1], cell.inner[0].shell)
    return cell.shell


def words_bound(cell):
    """The words that a cell binds, in the order in which they are written."""
    if not cell.bound:
        return ()
    return cell.bound[0] if cell.bound[0] else cell.bound[1]


def cell_text(cell, new, texts):
    """The text of a cell, where the new words of what it binds and the texts of the cells within it are told."""
    shell = cell.shell
    if is_row(shell):
        return pattern_text(shell[0], new) + " -> " + texts[0]
    part = rebuilt(shell, [shallow(one) for one in cell.inner])
    words = words_bound(cell)
    if words:
        part = (part[0], *[new[word] for word in words], *part[1 + len(words):])
    return part_text(part, texts)


class Writer:
    """Writes states. `count` is how many words are bound ahead of what is to be written next.

    `done` has the texts that are written, `waiting` tuples of a cell, of the new words of names around it, and of
    None, or of the new words of what it binds, the number of the words ahead of it, and the key of its text.
    """

    def __init__(self):
        self.count = 0
        self.done = []
        self.waiting = []

    def write(self, root):
        """The text of the cell of a state."""
        self.count = 0
        self.done = []
        self.waiting = [(root, {}, None)]
        while self.waiting:
            cell, names, made = self.waiting.pop()
            if made is not None:
                self._leave(cell, made)
            elif not cell.inner:
                self.done.append(names[cell.shell[1]] if cell.loose else part_text(cell.shell, []))
            else:
                self._enter(cell, names)
        return self.done[0]

    def _enter(self, cell, names):
        """Puts the text of a cell if it is known; otherwise lets those of the cells within it be written."""
        key = (self.count, *[names[word] for word in cell.loose])
        if cell.texts is None:
            cell.texts = {}
        for one in ((), key):
            if one in cell.texts:
                text, many = cell.texts[one]
                self.done.append(text)
                self.count += many
                return
        before = self.count
        new = {}
        for word in words_bound(cell):
            self.count += 1
            new[word] = "x" + str(self.count)
        self.waiting.append((cell, names, (new, before, key)))
        at = len(cell.inner)
        for inner in cell.inner[::-1]:
            at -= 1
            scope = names
            if cell.bound and cell.bound[at]:
                scope = {**names, **{word: new[word] for word in cell.bound[at]}}
            self.waiting.append((inner, scope, None))

    def _leave(self, cell, made):
        """Puts the text of a cell in the place of those of the cells within it.

        It is kept, and if no word is bound in it, and it names none that is bound around it, for all numbers.
        """
        new, before, key = made
        first = len(self.done) - len(cell.inner)
        text = cell_text(cell, new, self.done[first:])
        del self.done[first:]
        self.done.append(text)
        many = self.count - before
        cell.texts[() if many == 0 and not cell.loose else key] = (text, many)
