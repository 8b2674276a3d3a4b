"""Books of own kinds, macros and definitions."""
from widestkind.copies import Source
from widestkind.errors import BadMacro, NoSuch, Unknown
from widestkind.expanding import expand, has_calls
from widestkind.groups import grouped
from widestkind.kindwalks import folded, own_kinds_in
from widestkind.lines import check_contents, check_template, check_unlike, read_line
from widestkind.reading import read


class Book:
    """The book with the lines of a text. It never changes.

    The expansions of its definitions are worked out once, and kept with it; so is the tree of a text.
    """

    def __init__(self, text=""):
        self._kinds = {}
        self._macros = {}
        self._definitions = {}
        self._tags = {}
        self._lines = []
        self._text = ""
        self._sources = {}
        self._known_text = None
        self._known_tree = None
        if text != "":
            for index, line in enumerate(text.split("\n")):
                self._check(read_line(line, index + 1))

    def _check(self, line):
        """Takes in a line behind all others; raises what is wrong with it."""
        if line.head == "kind":
            check_unlike(line, self._kinds, self._tags)
            check_contents(line, {name: words for name, (words, _) in self._kinds.items()})
        elif line.head == "macro":
            check_unlike(line, self._macros, {})
            check_template(line, self._macros)
        else:
            check_unlike(line, self._definitions, {})
        self._put(line)

    def _put(self, line):
        """Takes in a line with which nothing is wrong."""
        if line.head == "kind":
            self._kinds[line.name] = (line.words, line.made)
            for tag, kind in line.made:
                self._tags[tag] = (line.name, line.words, kind)
        elif line.head == "macro":
            self._macros[line.name] = (line.words, line.made)
        else:
            self._definitions[line.name] = line.made
        self._text = self._text + "\n" + line.shown if self._lines else line.shown
        self._lines.append(line)

    def __eq__(self, other):
        return isinstance(other, Book) and self._text == other._text

    def __str__(self):
        return str(self._text)

    def kinds(self):
        """The list of the names of the own kinds."""
        return list(self._kinds)

    def macros(self):
        """The list of the names of the macros."""
        return list(self._macros)

    def definitions(self):
        """The list of the names of the definitions."""
        return list(self._definitions)

    def kind_of(self, tag):
        """The name and the parameters of the own kind of a constructor, and its content; or None."""
        return self._tags.get(tag)

    def constructors(self, name):
        """The list of the constructors of an own kind."""
        if name not in self._kinds:
            raise NoSuch(name)
        return [tag for tag, _ in self._kinds[name][1]]

    def parameters(self, name):
        """The list of the parameters of an own kind."""
        if name not in self._kinds:
            raise NoSuch(name)
        return list(self._kinds[name][0])

    def template_of(self, name):
        """The tuple of the parameters and the template of a macro."""
        if name not in self._macros:
            raise NoSuch(name)
        return self._macros[name]

    def tree_of(self, name):
        """The tree of a definition."""
        if name not in self._definitions:
            raise NoSuch(name)
        return self._definitions[name]

    def defines(self, name):
        """Whether there is a definition with a name."""
        return name in self._definitions

    def lines_read(self):
        """The list of the Lines."""
        return list(self._lines)

    def expanded_tree(self, tree, owner):
        """The expansion of a tree: the tree and the list of origins."""
        return expand(self._macros, tree, owner)

    def source_of(self, name):
        """The Source of the expansion of a definition."""
        if name not in self._sources:
            tree, origins = expand(self._macros, self.tree_of(name), name)
            self._sources[name] = Source(tree, origins)
        return self._sources[name]

    def expansion_of(self, name):
        """The expansion of a definition: the tree and the list of origins."""
        source = self.source_of(name)
        return source.steps[0], list(source.origins)

    def uses(self, name):
        """The ascending list of the definitions that a definition uses."""
        return sorted([word for word in self.source_of(name).strays if word in self._definitions])

    def groups(self):
        """The list of the groups of definitions, in ascending order."""
        return grouped({name: uses_or_none(self, name) for name in self._definitions})

    def read_text(self, text):
        """The tree of a text."""
        if isinstance(text, str) and text == self._known_text:
            return self._known_tree
        return read(text)

    def know_text(self, text, tree):
        """Keeps the tree of a text, which is known where the text is written by `show`."""
        self._known_text = text
        self._known_tree = tree

    def texts_of(self, sort):
        """The list of the texts of the lines of a sort."""
        return [line.shown for line in self._lines if line.head == sort]

    def take_over(self, other):
        """Keeps the expansions of definitions that are the same in another book."""
        same = self.texts_of("macro") == other.texts_of("macro")
        before = {line.name: line for line in other._lines if line.head == "def"}
        for line in self._lines:
            if line.head == "def" and line.name in other._sources and before[line.name].shown == line.shown:
                if same or not has_calls(line.made):
                    self._sources[line.name] = other._sources[line.name]

    def with_trees(self, trees):
        """The book with other trees in definitions and templates, as a dict from owners tells."""
        found = Book()
        for line in self._lines:
            if line.home() not in trees:
                found._put(line)
            else:
                found._check(line.with_tree(trees[line.home()]))
        found.take_over(self)
        return found


def book_of(lines, first):
    """The book of some lines, each a Line or a text that is still to be read; those ahead of `first` are right."""
    book = Book()
    for index, line in enumerate(lines):
        if index < first:
            book._put(line)
        else:
            book._check(read_line(line, index + 1) if isinstance(line, str) else line)
    return book


def uses_or_none(book, name):
    """The list of the definitions that a definition uses; one that cannot be expanded uses none."""
    try:
        return book.uses(name)
    except BadMacro:
        return []


def first_unknown(book, kind):
    """The name of the first own kind in a kind that a book does not have with so many kinds, or None."""
    return first_unknown_of(book, own_kinds_in(kind))


def first_unknown_of(book, owns):
    """The name of the first of some own kinds with kinds that a book does not have with so many kinds, or None."""
    many = {name: len(book.parameters(name)) for name in book.kinds()} if owns else {}
    for name, kinds in owns:
        if many.get(name) != len(kinds):
            return name
    return None


def lacks_values(book, kind, names, known):
    """Whether a kind is empty, where some names are known to be so, and own kinds with some empty kinds."""
    def is_empty_part(part, inner):
        if part[0] == "name":
            return part[1] in names
        if part[0] == "record":
            return any(inner)
        if part[0] == "variant" and part[2] is None:
            ours = [book.kind_of(entry[0]) is not None for entry in part[1]]
            return all([mine or empty for mine, empty in zip(ours, inner)])
        return part[0] == "own" and known[(part[1], tuple(inner))]

    return folded(kind, is_empty_part)


def choices(many):
    """All tuples of so many truth values."""
    found = [()]
    for _ in range(many):
        found = [(*row, truth) for row in found for truth in (False, True)]
    return found


def empty_table(book):
    """The dict from own kinds, with the truths which of their kinds are empty, to whether they are empty.

    An own kind is first taken to be empty: it speaks only of itself with the same kinds, so that one way through its
    constructors tells whether a value can be built.
    """
    known = {}
    for name in book.kinds():
        words = book.parameters(name)
        for row in choices(len(words)):
            names = {word: True for word, truth in zip(words, row) if truth}
            known[(name, row)] = True
            contents = [book.kind_of(tag)[2] for tag in book.constructors(name)]
            known[(name, row)] = all([lacks_values(book, kind, names, known) for kind in contents])
    return known


def is_empty(book, kind):
    """Whether a kind has no values."""
    name = first_unknown(book, kind)
    if name is not None:
        raise Unknown(name)
    return lacks_values(book, kind, {}, empty_table(book))
