"""Books of own kinds, macros and definitions."""
from widestkind.errors import BadMacro, NoSuch, Unknown
from widestkind.expanding import expand
from widestkind.groups import grouped
from widestkind.kindwalks import folded, own_kinds_in
from widestkind.lines import check_contents, check_template, check_unlike, read_line
from widestkind.names import binder_marks, free_words
from widestkind.shapes import parts_of


class Book:
    """The book with the lines of a text. It never changes."""

    def __init__(self, text=""):
        self._kinds = {}
        self._macros = {}
        self._definitions = {}
        self._tags = {}
        given = text.split("\n") if text != "" else []
        lines = []
        for index, line in enumerate(given):
            lines.append(self._take(read_line(line, index + 1)))
        self._text = "\n".join(lines)

    def _take(self, line):
        """Takes in a line behind all others; returns its text."""
        if line.head == "kind":
            check_unlike(line, self._kinds, self._tags)
            check_contents(line, {name: words for name, (words, _) in self._kinds.items()})
            self._kinds[line.name] = (line.words, line.made)
            for tag, kind in line.made:
                self._tags[tag] = (line.name, line.words, kind)
        elif line.head == "macro":
            check_unlike(line, self._macros, {})
            check_template(line, self._macros)
            self._macros[line.name] = (line.words, line.made)
        else:
            check_unlike(line, self._definitions, {})
            self._definitions[line.name] = line.made
        return line.written()

    def __eq__(self, other):
        return isinstance(other, Book) and self._text == other._text

    def __str__(self):
        return str(self._text)

    def kinds(self):
        """The list of the names of the own kinds."""
        return list(self._kinds)

    def macros(self):
        """The list of the names of the macros."""
        return list(self._macros)

    def definitions(self):
        """The list of the names of the definitions."""
        return list(self._definitions)

    def kind_of(self, tag):
        """The name and the parameters of the own kind of a constructor, and its content; or None."""
        return self._tags.get(tag)

    def constructors(self, name):
        """The list of the constructors of an own kind."""
        if name not in self._kinds:
            raise NoSuch(name)
        return [tag for tag, _ in self._kinds[name][1]]

    def parameters(self, name):
        """The list of the parameters of an own kind."""
        if name not in self._kinds:
            raise NoSuch(name)
        return list(self._kinds[name][0])

    def template_of(self, name):
        """The tuple of the parameters and the template of a macro."""
        if name not in self._macros:
            raise NoSuch(name)
        return self._macros[name]

    def tree_of(self, name):
        """The tree of a definition."""
        if name not in self._definitions:
            raise NoSuch(name)
        return self._definitions[name]

    def expanded_tree(self, tree, owner):
        """The expansion of a tree: the tree and the list of origins."""
        return expand(self._macros, tree, owner)

    def expansion_of(self, name):
        """The expansion of a definition: the tree and the list of origins."""
        return expand(self._macros, self.tree_of(name), name)

    def uses(self, name):
        """The ascending list of the definitions that a definition uses."""
        return sorted(self.used_in(self.expansion_of(name)[0]))

    def used_in(self, tree):
        """The list of the definitions that are free names in a tree."""
        return [word for word in free_words(parts_of(tree), binder_marks(tree)) if word in self._definitions]

    def groups(self):
        """The list of the groups of definitions, in ascending order."""
        return grouped({name: uses_or_none(self, name) for name in self._definitions})


def uses_or_none(book, name):
    """The list of the definitions that a definition uses; one that cannot be expanded uses none."""
    try:
        return book.uses(name)
    except BadMacro:
        return []


def first_unknown(book, kind):
    """The name of the first own kind in a kind that a book does not have with so many kinds, or None."""
    return first_unknown_of(book, own_kinds_in(kind))


def first_unknown_of(book, owns):
    """The name of the first of some own kinds with kinds that a book does not have with so many kinds, or None."""
    many = {name: len(book.parameters(name)) for name in book.kinds()} if owns else {}
    for name, kinds in owns:
        if many.get(name) != len(kinds):
            return name
    return None


def lacks_values(book, kind, names, known):
    """Whether a kind is empty, where some names are known to be so, and own kinds with some empty kinds."""
    def is_empty_part(part, inner):
        if part[0] == "name":
            return part[1] in names
        if part[0] == "record":
            return any(inner)
        if part[0] == "variant" and part[2] is None:
            ours = [book.kind_of(entry[0]) is not None for entry in part[1]]
            return all([mine or empty for mine, empty in zip(ours, inner)])
        return part[0] == "own" and known[(part[1], tuple(inner))]

    return folded(kind, is_empty_part)


def choices(many):
    """All tuples of so many truth values."""
    found = [()]
    for _ in range(many):
        found = [(*row, truth) for row in found for truth in (False, True)]
    return found


def empty_table(book):
    """The dict from own kinds, with the truths which of their kinds are empty, to whether they are empty.

    An own kind is first taken to be empty: it speaks only of itself with the same kinds, so that one way through its
    constructors tells whether a value can be built.
    """
    known = {}
    for name in book.kinds():
        words = book.parameters(name)
        for row in choices(len(words)):
            names = {word: True for word, truth in zip(words, row) if truth}
            known[(name, row)] = True
            contents = [book.kind_of(tag)[2] for tag in book.constructors(name)]
            known[(name, row)] = all([lacks_values(book, kind, names, known) for kind in contents])
    return known


def is_empty(book, kind):
    """Whether a kind has no values."""
    name = first_unknown(book, kind)
    if name is not None:
        raise Unknown(name)
    return lacks_values(book, kind, {}, empty_table(book))
