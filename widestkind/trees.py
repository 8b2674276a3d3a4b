"""Trees and patterns, their parts, and the texts of trees."""
from widestkind.errors import BadTree
from widestkind.kinds import is_kind, kind_text
from widestkind.measures import is_measure, measure_text
from widestkind.powers import is_name
from widestkind.shapes import LEAVES, PATTERNS, TREES, is_row, parts_in, parts_of
from widestkind.words import is_integer, is_plain_word, is_tag, is_word

SIGNS = ("+", "-", "*", "/", "<")

# How closely trees hold together; those that are not named here stand without brackets everywhere.
CLOSENESS = {"fn": 0, "let": 0, "rec": 0, "call": 4, "field": 4}
OP_CLOSENESS = {"<": 1, "+": 2, "-": 2, "*": 3, "/": 3}
CLOSEST = 5

EMPTY = ("record", ())


def is_unit(value):
    """Whether any value is what may be written as the measure of a number, or None."""
    if value is None:
        return True
    return is_measure(value) and value != () and not any([is_name(factor) for factor, _ in value])


def are_entries(value):
    """Whether any value is a tuple of pairs with unlike words."""
    if not isinstance(value, tuple):
        return False
    labels = set()
    for entry in value:
        if not isinstance(entry, tuple) or len(entry) != 2 or not is_word(entry[0]) or entry[0] in labels:
            return False
        labels.add(entry[0])
    return True


def are_rows(value):
    """Whether any value is a tuple of one or more pairs of a pattern and something else."""
    if not isinstance(value, tuple) or value == ():
        return False
    for row in value:
        if not isinstance(row, tuple) or len(row) != 2 or not is_pattern(row[0]):
            return False
    return True


def is_of(value, sort):
    """Whether any value is of a sort that the shape of a part names; trees in it are not looked at."""
    if sort == "tree":
        return True
    if sort == "word":
        return is_word(value)
    if sort == "entries":
        return are_entries(value)
    if sort == "tag":
        return is_tag(value)
    if sort == "count":
        return is_integer(value) and value >= 0
    if sort == "unit":
        return is_unit(value)
    if sort == "sign":
        return isinstance(value, str) and value in SIGNS
    if sort == "rows":
        return are_rows(value)
    if sort == "kind":
        return is_kind(value)
    return is_plain_word(value) if sort == "plain" else isinstance(value, tuple)


def fits_shape(value, shape):
    """Whether a tuple has, behind its first item, what a shape says."""
    if len(value) != len(shape) + 1:
        return False
    for item, sort in zip(value[1:], shape):
        if sort != "tree" and not is_of(item, sort):
            return False
    return value[0] != "rec" or value[1] != value[2]


def shaped(value, patterns):
    """The values directly in any value that must be trees, or patterns; None if it is not built like one itself."""
    if not isinstance(value, tuple) or value == () or not isinstance(value[0], str):
        return None
    shape = PATTERNS.get(value[0]) if patterns else TREES.get(value[0])
    if shape is None or not fits_shape(value, shape):
        return None
    if value[0] == "match":
        return [value[1]] + [row[1] for row in value[2]]
    return parts_in(value)


def is_tree(value):
    """Whether any value is a tree."""
    waiting = [value]
    while waiting:
        inner = shaped(waiting.pop(), False)
        if inner is None:
            return False
        waiting.extend(inner)
    return True


def is_pattern(value):
    """Whether any value is a pattern."""
    names = set()
    waiting = [value]
    while waiting:
        first = waiting.pop()
        inner = shaped(first, True)
        if inner is None:
            return False
        if first[0] == "bind":
            if first[1] in names:
                return False
            names.add(first[1])
        waiting.extend(inner)
    return True


def parts(tree):
    """The list of the parts of a tree, in the order of their numbers."""
    if not is_tree(tree):
        raise BadTree(tree)
    return parts_of(tree)


def closeness(tree):
    """How closely a tree holds together."""
    if tree[0] == "op":
        return OP_CLOSENESS[tree[1]]
    return CLOSENESS.get(tree[0], CLOSEST)


def text_at(tree, text, least):
    """The text of a tree, with brackets if it holds together less closely than it must there."""
    return text if closeness(tree) >= least else "(" + text + ")"


def number_text(part, texts):
    """The text of a number with its measure, if one is written."""
    return str(part[1]) if part[2] is None else str(part[1]) + "[" + measure_text(part[2]) + "]"


def word_text(part, texts):
    """The text of a name or of a pattern that is one."""
    return part[1]


def any_text(part, texts):
    """The text of the pattern that fits everything."""
    return "_"


def fail_text(part, texts):
    """The text of a fault."""
    return "fail " + part[1]


def fn_text(part, texts):
    """The text of a function."""
    return "fn " + part[1] + " -> " + texts[0]


def let_text(part, texts):
    """The text of a `let`."""
    return "let " + part[1] + " = " + texts[0] + " in " + texts[1]


def rec_text(part, texts):
    """The text of a `rec`."""
    return "rec " + part[1] + " " + part[2] + " = " + texts[0] + " in " + texts[1]


def op_text(part, texts):
    """The text of two trees with a sign between them."""
    close = OP_CLOSENESS[part[1]]
    left = text_at(part[2], texts[0], 2 if part[1] == "<" else close)
    return left + " " + part[1] + " " + text_at(part[3], texts[1], close + 1)


def call_text(part, texts):
    """The text of a call: behind a tag that stands alone a bracket would belong to the tag."""
    called = part[1]
    if called[0] == "tag" and called[2] == EMPTY:
        return "(" + texts[0] + ")(" + texts[1] + ")"
    return text_at(called, texts[0], 4) + "(" + texts[1] + ")"


def field_text(part, texts):
    """The text of an entry of a record."""
    return text_at(part[1], texts[0], 4) + "." + part[2]


def record_text(part, texts):
    """The text of a record or of a record pattern."""
    return "{" + ", ".join([entry[0] + " = " + text for entry, text in zip(part[1], texts)]) + "}"


def with_text(part, texts):
    """The text of a record with another entry."""
    return "{" + texts[0] + " with " + part[2] + " = " + texts[1] + "}"


def tag_text(part, texts):
    """The text of a tag or of a tag pattern."""
    return part[1] if part[2] == EMPTY else part[1] + "(" + texts[0] + ")"


def match_text(part, texts):
    """The text of a match."""
    return "match " + texts[0] + " {" + "; ".join(texts[1:]) + "}"


def told_text(part, texts):
    """The text of a tree whose kind is told."""
    return "(" + texts[0] + " : " + kind_text(part[2]) + ")"


def macro_text(part, texts):
    """The text of a call of a macro."""
    return "@" + part[1] + "(" + ", ".join(texts) + ")"


TEXTS = {
    "number": number_text,
    "name": word_text,
    "fail": fail_text,
    "fn": fn_text,
    "call": call_text,
    "let": let_text,
    "rec": rec_text,
    "record": record_text,
    "with": with_text,
    "field": field_text,
    "tag": tag_text,
    "match": match_text,
    "op": op_text,
    "told": told_text,
    "macro": macro_text,
    "any": any_text,
    "bind": word_text,
}


def part_text(part, texts):
    """The text of a part, of which the texts of the parts directly within it are told."""
    if is_row(part):
        return texts[0] + " -> " + texts[1]
    write = TEXTS[part[0]]
    return write(part, texts)


def text_of(part):
    """The text of a tree, of a row, of a pattern or of a template."""
    done = []
    for one in parts_of(part)[::-1]:
        texts = [] if one[0] in LEAVES else [done.pop() for _ in parts_in(one)]
        done.append(part_text(one, texts))
    return done[0]


def show(tree):
    """A text whose tree is the one that is given."""
    if not is_tree(tree):
        raise BadTree(tree)
    return text_of(tree)
