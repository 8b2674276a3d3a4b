"""Wholes in which other trees stand at places of the text, of the definitions and of the templates."""
from widestkind.errors import BadPlace
from widestkind.shapes import folded, is_row, numbers_within, parts_in, parts_of, rebuilt, sizes_of
from widestkind.trees import text_of
from widestkind.wholes import Whole, is_place_of


def pattern_numbers(tree):
    """The dict of True for the numbers of the rows and patterns of a tree."""
    steps = parts_of(tree)
    sizes = sizes_of(steps)
    found = {}
    for number, part in enumerate(steps):
        if is_row(part):
            found[number] = True
            found[number + 1] = True
        elif number in found:
            for inner in numbers_within(number, len(parts_in(part)), sizes):
                found[inner] = True
    return found


def check_tree_place(whole, place):
    """Raises BadPlace unless any value is a place of a whole at which a tree stands."""
    if not is_place_of(whole, place) or not whole.has_tree_at(place):
        raise BadPlace(place)


def tree_with(tree, number, other):
    """The tree with another one in the place of the part with a number."""
    return tree_with_all(tree, {number: other})


def tree_with_all(tree, table):
    """The tree with others in the place of parts, as a dict from their numbers tells; the outermost ones count."""
    def changed(part, number, inner):
        if number in table:
            return table[number]
        return rebuilt(part, inner)

    return folded(tree, changed)


def changed_whole(whole, trees):
    """The whole with other trees in the text, in definitions and in templates, as a dict from owners tells."""
    book = whole.book
    if [owner for owner in trees if owner != ""]:
        book = book.with_trees(trees)
    tree = trees.get("", whole.tree_read())
    text = text_of(tree) if "" in trees else whole.text
    book.know_text(text, tree)
    return Whole(book, text)
