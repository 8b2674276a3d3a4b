"""Wholes in which other trees stand at places of the text, of the definitions and of the templates."""
from widestkind.books import Book
from widestkind.errors import BadPlace
from widestkind.lines import Line
from widestkind.reading import read
from widestkind.shapes import folded, is_row, numbers_within, parts_in, parts_of, rebuilt, sizes_of
from widestkind.trees import text_of
from widestkind.wholes import Whole, is_place_of


def owner_tree(whole, owner):
    """The tree of the text, of a definition or of a template, as it is written."""
    if owner == "":
        return read(whole.text)
    if owner[0] == "@":
        return whole.book.template_of(owner[1:])[1]
    return whole.book.tree_of(owner)


def pattern_numbers(tree):
    """The dict of True for the numbers of the rows and patterns of a tree."""
    steps = parts_of(tree)
    sizes = sizes_of(steps)
    found = {}
    for number, part in enumerate(steps):
        if is_row(part):
            found[number] = True
            found[number + 1] = True
        elif number in found:
            for inner in numbers_within(number, len(parts_in(part)), sizes):
                found[inner] = True
    return found


def is_tree_place(whole, place):
    """Whether a tree stands at a place of a whole, and no row or pattern."""
    return place[1] not in pattern_numbers(owner_tree(whole, place[0]))


def check_tree_place(whole, place):
    """Raises BadPlace unless any value is a place of a whole at which a tree stands."""
    if not is_place_of(whole, place) or not is_tree_place(whole, place):
        raise BadPlace(place)


def tree_with(tree, number, other):
    """The tree with another one in the place of the part with a number."""
    return tree_with_all(tree, {number: other})


def tree_with_all(tree, table):
    """The tree with others in the place of parts, as a dict from their numbers tells; the outermost ones count."""
    def changed(part, number, inner):
        if number in table:
            return table[number]
        return rebuilt(part, inner)

    return folded(tree, changed)


def owner_of_line(line):
    """The owner of the parts in a line of a book, or None for a line of an own kind."""
    sort, name = line.split(" ")[:2]
    if sort == "def":
        return name
    if sort == "macro":
        return "@" + name.split("(")[0]
    return None


def changed_book(book, trees):
    """The book with other trees in definitions and templates, as a dict from owners tells."""
    lines = []
    for line in str(book).split("\n"):
        owner = owner_of_line(line) if line != "" else None
        if owner is None or owner not in trees:
            lines.append(line)
        elif owner[0] == "@":
            words, _ = book.template_of(owner[1:])
            lines.append(Line("macro", owner[1:], words, trees[owner]).written())
        else:
            lines.append(Line("def", owner, (), trees[owner]).written())
    return Book("\n".join(lines))


def changed_whole(whole, trees):
    """The whole with other trees in the text, in definitions and in templates, as a dict from owners tells."""
    book = whole.book
    if [owner for owner in trees if owner != ""]:
        book = changed_book(book, trees)
    text = text_of(trees[""]) if "" in trees else whole.text
    return Whole(book, text)
