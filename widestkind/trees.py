"""Trees and patterns, their parts, and the texts of trees."""
from widestkind.errors import BadTree
from widestkind.kinds import is_kind, kind_text
from widestkind.measures import is_measure, measure_text
from widestkind.powers import is_name
from widestkind.shapes import PATTERNS, TREES, folded, is_row, parts_in, parts_of
from widestkind.words import is_integer, is_plain_word, is_tag, is_word

SIGNS = ("+", "-", "*", "/", "<")

# How closely trees hold together; those that are not named here stand without brackets everywhere.
CLOSENESS = {"fn": 0, "let": 0, "rec": 0, "call": 4, "field": 4}
OP_CLOSENESS = {"<": 1, "+": 2, "-": 2, "*": 3, "/": 3}
CLOSEST = 5

EMPTY = ("record", ())


def is_unit(value):
    """Whether any value is what may be written as the measure of a number, or None."""
    if value is None:
        return True
    return is_measure(value) and value != () and not any([is_name(factor) for factor, _ in value])


def are_entries(value):
    """Whether any value is a tuple of pairs with unlike words."""
    if not isinstance(value, tuple):
        return False
    labels = set()
    for entry in value:
        if not isinstance(entry, tuple) or len(entry) != 2 or not is_word(entry[0]) or entry[0] in labels:
            return False
        labels.add(entry[0])
    return True


def are_rows(value):
    """Whether any value is a tuple of one or more pairs of a pattern and something else."""
    if not isinstance(value, tuple) or value == ():
        return False
    for row in value:
        if not isinstance(row, tuple) or len(row) != 2 or not is_pattern(row[0]):
            return False
    return True


def is_of(value, sort):
    """Whether any value is of a sort that the shape of a part names; trees in it are not looked at."""
    if sort == "tree":
        return True
    if sort == "word":
        return is_word(value)
    if sort == "entries":
        return are_entries(value)
    if sort == "tag":
        return is_tag(value)
    if sort == "count":
        return is_integer(value) and value >= 0
    if sort == "unit":
        return is_unit(value)
    if sort == "sign":
        return isinstance(value, str) and value in SIGNS
    if sort == "rows":
        return are_rows(value)
    if sort == "kind":
        return is_kind(value)
    return is_plain_word(value) if sort == "plain" else isinstance(value, tuple)


def fits_shape(value, shape):
    """Whether a tuple has, behind its first item, what a shape says."""
    if len(value) != len(shape) + 1:
        return False
    for item, sort in zip(value[1:], shape):
        if sort != "tree" and not is_of(item, sort):
            return False
    return value[0] != "rec" or value[1] != value[2]


def shaped(value, patterns):
    """The values directly in any value that must be trees, or patterns; None if it is not built like one itself."""
    if not isinstance(value, tuple) or value == () or not isinstance(value[0], str):
        return None
    shape = PATTERNS.get(value[0]) if patterns else TREES.get(value[0])
    if shape is None or not fits_shape(value, shape):
        return None
    if value[0] == "match":
        return [value[1]] + [row[1] for row in value[2]]
    return parts_in(value)


def is_tree(value):
    """Whether any value is a tree."""
    waiting = [value]
    while waiting:
        inner = shaped(waiting.pop(), False)
        if inner is None:
            return False
        waiting.extend(inner)
    return True


def is_pattern(value):
    """Whether any value is a pattern."""
    names = set()
    waiting = [value]
    while waiting:
        first = waiting.pop()
        inner = shaped(first, True)
        if inner is None:
            return False
        if first[0] == "bind":
            if first[1] in names:
                return False
            names.add(first[1])
        waiting.extend(inner)
    return True


def parts(tree):
    """The list of the parts of a tree, in the order of their numbers."""
    if not is_tree(tree):
        raise BadTree(tree)
    return parts_of(tree)


def closeness(tree):
    """How closely a tree holds together."""
    if tree[0] == "op":
        return OP_CLOSENESS[tree[1]]
    return CLOSENESS.get(tree[0], CLOSEST)


def text_at(tree, text, least):
    """The text of a tree, with brackets if it holds together less closely than it must there."""
    return text if closeness(tree) >= least else "(" + text + ")"


def called_text(tree, text):
    """The text of what is called: behind a tag that stands alone a bracket would belong to the tag."""
    if tree[0] == "tag" and tree[2] == EMPTY:
        return "(" + text + ")"
    return text_at(tree, text, 4)


def entries_text(entries, texts):
    """The text of the entries of a record or of a record pattern."""
    return "{" + ", ".join([entry[0] + " = " + text for entry, text in zip(entries, texts)]) + "}"


def number_text(number, measure):
    """The text of a number with its measure, if one is written."""
    return str(number) if measure is None else str(number) + "[" + measure_text(measure) + "]"


def op_text(tree, texts):
    """The text of two trees with a sign between them."""
    close = closeness(tree)
    left = text_at(tree[2], texts[0], 2 if tree[1] == "<" else close)
    return left + " " + tree[1] + " " + text_at(tree[3], texts[1], close + 1)


def binder_text(tree, texts):
    """The text of an `fn`, a `let` or a `rec`."""
    if tree[0] == "fn":
        return "fn " + tree[1] + " -> " + texts[0]
    words = tree[1] if tree[0] == "let" else tree[1] + " " + tree[2]
    return tree[0] + " " + words + " = " + texts[0] + " in " + texts[1]


def short_text(part):
    """The text of a part that has no parts within it."""
    if part[0] == "number":
        return number_text(part[1], part[2])
    if part[0] == "fail":
        return "fail " + part[1]
    if part[0] == "any":
        return "_"
    return part[1]


def part_text(part, number, texts):
    """The text of a part, of which the texts of the parts directly within it are told."""
    if is_row(part):
        return texts[0] + " -> " + texts[1]
    head = part[0]
    if head in ("fn", "let", "rec"):
        return binder_text(part, texts)
    if head == "op":
        return op_text(part, texts)
    if head == "call":
        return called_text(part[1], texts[0]) + "(" + texts[1] + ")"
    if head == "field":
        return text_at(part[1], texts[0], 4) + "." + part[2]
    if head == "record":
        return entries_text(part[1], texts)
    if head == "with":
        return "{" + texts[0] + " with " + part[2] + " = " + texts[1] + "}"
    if head == "tag":
        return part[1] if part[2] == EMPTY else part[1] + "(" + texts[0] + ")"
    if head == "match":
        return "match " + texts[0] + " {" + "; ".join(texts[1:]) + "}"
    if head == "told":
        return "(" + texts[0] + " : " + kind_text(part[2]) + ")"
    if head == "macro":
        return "@" + part[1] + "(" + ", ".join(texts) + ")"
    return short_text(part)


def text_of(part):
    """The text of a tree, of a row, of a pattern or of a template."""
    return folded(part, part_text)


def show(tree):
    """A text whose tree is the one that is given."""
    if not is_tree(tree):
        raise BadTree(tree)
    return text_of(tree)
