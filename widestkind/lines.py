"""The lines of books: what they are made of, what can be wrong with them, and how they are written."""
from widestkind.errors import BadLine, BadMacro, BadName, BadText, Twice, Unknown
from widestkind.expanding import first_bad_call
from widestkind.kinds import kind_text
from widestkind.kindwalks import own_kinds_in, uses_in
from widestkind.names import bound_words
from widestkind.parsing import parsed_line
from widestkind.shapes import parts_of
from widestkind.trees import text_of

MOST = {"kind": 3, "macro": 4, "def": 0}


class Line:
    """A line: its sort, its name, its parameters, and its constructors or its tree. It never changes.

    `made` is a tuple of tuples of a tag and a content for an own kind, and a tree otherwise. `shown` is its text.
    """

    def __init__(self, sort, name, words, made):
        self.head = sort
        self.name = name
        self.words = words
        self.made = made
        self.shown = self.written()

    def home(self):
        """The owner of the parts of the line, or None for an own kind."""
        if self.head == "kind":
            return None
        return self.name if self.head == "def" else "@" + self.name

    def with_tree(self, tree):
        """The line with another tree."""
        return Line(self.head, self.name, self.words, tree)

    def written(self):
        """The text of the line, with single spaces."""
        if self.head == "def":
            return "def " + self.name + " = " + text_of(self.made)
        if self.head == "macro":
            return "macro " + self.name + "(" + ", ".join(self.words) + ") = " + text_of(self.made)
        texts = [tag if kind == ("record", (), None) else tag + "(" + kind_text(kind) + ")" for tag, kind in self.made]
        return " ".join(["kind", self.name, *self.words, "=", " | ".join(texts)])


def line_pieces(text, number):
    """The sort of a line and the pieces of its text; its number is told if it is not written as a line."""
    try:
        sort, reader = parsed_line(text)
    except BadText:
        raise BadLine(number)
    if reader.notes.first_double() is not None or reader.notes.strays:
        raise BadLine(number)
    return sort, [piece.part for piece in reader.pieces]


def read_line(text, number):
    """The Line with a text, whatever other lines there are."""
    sort, pieces = line_pieces(text, number)
    name, words = pieces[0]
    if len(words) > MOST[sort]:
        raise BadLine(number)
    if sort != "kind":
        return Line(sort, name, words, pieces[1])
    if name in ("record", "variant") or any([tag in ("Yes", "No") for tag, _ in pieces[1:]]):
        raise BadLine(number)
    return Line(sort, name, words, tuple(pieces[1:]))


def check_unlike(line, names, tags):
    """Raises Twice with the first word of a line that may not stand a second time."""
    if line.name in names:
        raise Twice(line.name)
    seen = set()
    for word in line.words:
        if word in seen:
            raise Twice(word)
        seen.add(word)
    if line.head != "kind":
        return
    for tag, _ in line.made:
        if tag in tags or tag in seen:
            raise Twice(tag)
        seen.add(tag)


def check_contents(line, known):
    """Raises what is wrong with the contents of an own kind, where `known` has the parameters of earlier ones."""
    for _, kind in line.made:
        for name, use in uses_in(kind):
            if name not in line.words or use[0] != "kind":
                raise BadName(name)
    for _, kind in line.made:
        for name, kinds in own_kinds_in(kind):
            if name == line.name:
                if not are_names(kinds, line.words):
                    raise Unknown(name)
            elif name not in known or len(known[name]) != len(kinds):
                raise Unknown(name)


def are_names(kinds, words):
    """Whether kinds are just the kind names of a list."""
    if len(kinds) != len(words):
        return False
    return not any([kind[0] != "name" or kind[1] != word for kind, word in zip(kinds, words)])


def template_words(part):
    """The words of a part that are bound or that it names, in the order in which they are written."""
    if part[0] == "name":
        return [part[1]]
    return bound_words(part)


def check_template(line, macros):
    """Raises what is wrong with the template of a macro, where `macros` has the earlier ones."""
    for part in parts_of(line.made):
        for word in template_words(part):
            if word[0] == "$" and word not in line.words:
                raise Unknown(word)
    name = first_bad_call(line.made, macros)
    if name is not None:
        raise BadMacro(name)
