"""Values: what is left of a text when it has been run."""
from widestkind.errors import BadTree
from widestkind.names import free, plain_text
from widestkind.numberforms import is_number_form
from widestkind.shapes import parts_of
from widestkind.trees import is_tree
from widestkind.words import is_plain_word


def is_rec_value(tree):
    """Whether a tree is a `rec` that stands for its function."""
    return tree[0] == "rec" and tree[4] == ("name", tree[1])


def is_value_form(tree):
    """Whether a tree has the form of a value, whatever names and calls of macros stand in its functions."""
    waiting = [tree]
    while waiting:
        part = waiting.pop()
        if part[0] == "record":
            waiting.extend([inner for _, inner in part[1]])
        elif part[0] == "tag":
            waiting.append(part[2])
        elif part[0] != "fn" and not is_rec_value(part) and not is_number_form(part):
            return False
    return True


def is_value(value):
    """Whether any value is a value whose free names are plain words."""
    if not is_tree(value) or not is_value_form(value):
        return False
    if any([part[0] == "macro" for part in parts_of(value)]):
        return False
    return all([is_plain_word(name) for name in free(value)])


def value_text(tree):
    """The text of a value."""
    if not is_value(tree):
        raise BadTree(tree)
    return plain_text(tree)


def is_data(tree):
    """Whether a value has no function in it."""
    return not any([part[0] in ("fn", "rec") for part in parts_of(tree)])
