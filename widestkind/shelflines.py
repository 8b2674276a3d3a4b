"""The lines of a shelf: own kinds first, then macros, then definitions."""
from widestkind.errors import BadLine
from widestkind.signs import cut
from widestkind.words import is_word

SORTS = ("kind", "macro", "def")


def sort_and_name(line):
    """The sort and the name of a line, or None if it does not begin with them."""
    if "\n" in line:
        return None
    found = [token for token, _ in cut(line)[0][:2]]
    if len(found) < 2 or found[0] not in SORTS or not is_word(found[1]):
        return None
    return found[0], found[1]


def lines_of(text):
    """The list of the lines of the text of a book, own kinds first, then macros, then definitions."""
    lines = text.split("\n") if text != "" else []
    return [line for sort in SORTS for line in lines if sort_and_name(line)[0] == sort]


def place_of(lines, sort, name):
    """The index of the line of a sort with a name, or None."""
    for index, line in enumerate(lines):
        if sort_and_name(line) == (sort, name):
            return index
    return None


def lines_with(lines, line):
    """The lines with a further one, in the place of the one of the same sort and name or behind others of its sort."""
    told = sort_and_name(line)
    if told is None:
        raise BadLine(len(lines) + 1)
    index = place_of(lines, told[0], told[1])
    if index is not None:
        return [*lines[:index], line, *lines[index + 1:]]
    many = len([one for one in lines if SORTS.index(sort_and_name(one)[0]) <= SORTS.index(told[0])])
    return [*lines[:many], line, *lines[many:]]
