"""The lines of a shelf: own kinds first, then macros, then definitions."""
from widestkind.errors import BadLine
from widestkind.words import is_word, word_end

SORTS = ("kind", "macro", "def")


def word_behind(line, begin):
    """The tuple of the index behind the spaces from an index on, and of that behind the word that follows on them."""
    while line[begin:begin + 1] == " ":
        begin += 1
    return begin, word_end(line, begin)


def sort_and_name(line):
    """The sort and the name of a line, or None if it does not begin with them."""
    if "\n" in line:
        return None
    begin, end = word_behind(line, 0)
    first, behind = word_behind(line, end)
    if line[begin:end] not in SORTS or not is_word(line[first:behind]):
        return None
    return line[begin:end], line[first:behind]


def sorted_rows(texts, lines):
    """The texts of the lines of a book, and the Lines: own kinds first, then macros, then definitions."""
    rows = [(text, line) for sort in SORTS for text, line in zip(texts, lines) if line.head == sort]
    return [text for text, _ in rows], [line for _, line in rows]


def place_of(lines, sort, name):
    """The index of the Line of a sort with a name, or None."""
    for index, line in enumerate(lines):
        if line.head == sort and line.name == name:
            return index
    return None


def place_for(lines, text):
    """The tuple of the index at which the text of a line is to stand, and of the index behind the Line it replaces.

    That is the Line of the same sort and name; otherwise it comes behind the others of its sort.
    """
    told = sort_and_name(text)
    if told is None:
        raise BadLine(len(lines) + 1)
    index = place_of(lines, told[0], told[1])
    if index is not None:
        return index, index + 1
    many = len([one for one in lines if SORTS.index(one.head) <= SORTS.index(told[0])])
    return many, many
