"""Whether any value is a form."""
from widestkind.books import first_unknown_of
from widestkind.formshapes import form_parts_in, form_shape
from widestkind.kinds import is_built_kind, is_kind
from widestkind.kindwalks import uses_and_owns
from widestkind.measures import is_measure
from widestkind.pieces import first_stray
from widestkind.trees import is_of
from widestkind.words import is_kind_name, is_plain_word


def is_book_kind(book, value):
    """Whether any value is a kind whose own kinds are those of a book."""
    if not is_built_kind(value):
        return False
    uses, owns = uses_and_owns(value)
    return first_stray(uses) is None and first_unknown_of(book, owns) is None


def are_names(value):
    """Whether any value is a tuple of unlike kind names."""
    if not isinstance(value, tuple):
        return False
    seen = set()
    for name in value:
        if not is_kind_name(name) or name in seen:
            return False
        seen.add(name)
    return True


def is_thing(value):
    """Whether any value is a kind, a row or a measure that may be put in the place of a name."""
    if is_measure(value) or is_kind(value):
        return True
    if not isinstance(value, tuple) or len(value) != 2:
        return False
    return any([is_kind((head, value[0], value[1])) for head in ("record", "variant")])


def is_table(value):
    """Whether any value is None or a tuple of tuples of a kind name and a thing."""
    if value is None:
        return True
    if not isinstance(value, tuple):
        return False
    for entry in value:
        if not isinstance(entry, tuple) or len(entry) != 2:
            return False
        if not is_kind_name(entry[0]) or not is_thing(entry[1]):
            return False
    return True


def is_of_form(book, value, sort):
    """Whether any value is of a sort that the shape of a form tree names; trees in it are not looked at."""
    if sort == "measure":
        return is_measure(value)
    if sort == "table":
        return is_table(value)
    if sort == "names":
        return are_names(value)
    if sort == "kind":
        return is_book_kind(book, value)
    return is_of(value, sort)


def inner_values(book, value):
    """The values directly in any value that must be form trees; None if it is not built like a form tree itself."""
    shape = form_shape(value) if isinstance(value, tuple) else None
    if shape is None:
        return None
    for item, sort in zip(value[1:], shape):
        if sort != "tree" and not is_of_form(book, item, sort):
            return None
    if value[0] == "rec" and value[1] == value[2]:
        return None
    if value[0] == "match":
        return [value[1]] + [row[1] for row in value[2]]
    return form_parts_in(value)


def is_form_tree(book, value):
    """Whether any value is a form tree."""
    waiting = [value]
    while waiting:
        inner = inner_values(book, waiting.pop())
        if inner is None:
            return False
        waiting.extend(inner)
    return True


def entries_of(value):
    """The list of the entries of all groups in any value, or None if it is no tuple of groups."""
    if not isinstance(value, tuple):
        return None
    found = []
    for group in value:
        if not isinstance(group, tuple) or len(group) != 2 or not are_names(group[0]):
            return None
        if not isinstance(group[1], tuple) or group[1] == ():
            return None
        found.extend(group[1])
    return found


def is_form_in(book, value):
    """Whether any value is a form."""
    if not isinstance(value, tuple) or len(value) != 3 or not isinstance(value[0], str) or value[0] != "form":
        return False
    entries = entries_of(value[1])
    if entries is None:
        return False
    seen = set()
    for entry in entries:
        if not isinstance(entry, tuple) or len(entry) != 3 or not is_plain_word(entry[0]) or entry[0] in seen:
            return False
        seen.add(entry[0])
        if not is_book_kind(book, entry[1]) or not is_form_tree(book, entry[2]):
            return False
    return is_form_tree(book, value[2])
